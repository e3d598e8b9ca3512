"""Desks: commands, and the texts that answer them."""

from ledmarks.deciding import faults, fewest
from ledmarks.editions import Edition
from ledmarks.errors import InvalidCommand
from ledmarks.live import Live
from ledmarks.steps import FAULTS
from ledmarks.tools import Tool
from ledmarks.words import is_decimal

MACHINES = ("1", "2", "3", "4")

# The commands that need a live thing; all but `tool` need a tool.
LIVELY = ("do", "mark", "undo")


class Desk:
    """Does commands, with the tool that was kept last and the live thing that was begun last."""

    def __init__(self):
        self.tool = None
        self.live = None

    def say(self, command):
        """Does the command, and returns the text that answers it."""
        words = _words(command)
        if not _is_form(words) or not self._is_possible(words):
            raise InvalidCommand()
        word, *rest = words
        if word == "tool":
            return self._keep(" ".join(rest))
        if word == "begin":
            return self._begin(rest[0], " ".join(rest[1:]))
        if word == "do":
            return _listed([str(row) for row in self.live.do(" ".join(rest))], "-")
        if word == "mark":
            return self._mark(int(rest[0]))
        if word == "faults":
            return _listed(faults(self.tool), "never")
        if word == "fewest":
            many = fewest(self.tool, rest[0])
            return "never" if many is None else str(many)
        return "undone" if self.live.undo() else "nothing"

    def _is_possible(self, words):
        """Whether there is what a command of a right form needs."""
        if words[0] != "tool" and self.tool is None:
            return False
        if words[0] in LIVELY and self.live is None:
            return False
        return words[0] != "mark" or int(words[1]) < len(self.live.played.marks)

    def _keep(self, text):
        tool = Tool.read(text.replace(" ; ", "\n"))
        if self.live is not None:
            self.live.change(tool)
        self.tool = tool
        return str(len(tool))

    def _begin(self, machines, text):
        first = Edition.read(text)
        self.live = Live(self.tool, first, int(machines))
        return str(len(first))

    def _mark(self, row):
        played = self.live.played
        return f"{played.marks[row]} known" if played.known[row] else played.marks[row]


def _words(command):
    """The words of the command; none if any value is no command at all."""
    if not isinstance(command, str) or "\n" in command:
        return []
    words = command.split(" ")
    return [] if "" in words else words


def _is_form(words):
    """Whether the words have the form of a command."""
    many = len(words)
    if many == 0:
        return False
    if words[0] in ("faults", "undo"):
        return many == 1
    if words[0] == "mark":
        return many == 2 and is_decimal(words[1])
    if words[0] == "fewest":
        return many == 2 and words[1] in FAULTS
    if words[0] == "begin":
        return many > 2 and words[1] in MACHINES
    return words[0] in ("tool", "do") and many > 1


def _listed(words, none):
    return " ".join(words) or none
