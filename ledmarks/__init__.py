"""Marks of what was run, led over edited texts."""
