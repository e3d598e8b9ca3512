"""What must be kept with the marks, and which rows of a tool could be left out or exchanged."""

from ledmarks.comparing import alike
from ledmarks.deciding import happening
from ledmarks.steps import check_fault
from ledmarks.tools import Tool

# Fewer parts first, then in their order.
CHOICES = (
    (), ("above",), ("below",), ("own",),
    ("above", "below"), ("above", "own"), ("below", "own"), ("above", "below", "own"),
)


def least_parts(tool, wanted):
    """The fewest parts with which alone none of the wanted faults happens, or None."""
    _check(wanted)
    for parts in CHOICES:
        if happening(tool.heeding(parts), wanted) == ():
            return parts
    return None


def needless(tool, wanted):
    """The rows without which, each alone, the same ones of the wanted faults happen."""
    _check(wanted)
    found = happening(tool, wanted)
    return tuple([at for at in range(len(tool)) if happening(tool.without(at), wanted) == found])


def repairs(tool, wanted):
    """The rows without which, each alone, none of the wanted faults happens."""
    _check(wanted)
    return tuple([at for at in range(len(tool)) if happening(tool.without(at), wanted) == ()])


def swaps(tool):
    """The rows that can be exchanged with the next one while the same rows are told in all stories."""
    return tuple([at for at in range(len(tool) - 1) if alike(tool, _swapped(tool, at))])


def _check(wanted):
    for fault in wanted:
        check_fault(fault)


def _swapped(tool, at):
    """The tool with this row behind the next one."""
    rows = [*tool.rows[:at], tool.rows[at + 1], tool.rows[at], *tool.rows[at + 2:]]
    return Tool(tool.marks, tool.told, tool.parts, tool.clears, rows)
