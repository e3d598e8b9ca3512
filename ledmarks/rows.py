"""The rows of tools: what becomes of a mark."""

from ledmarks.errors import InvalidRow, InvalidText
from ledmarks.words import PARTS, are_different, is_name, is_same, is_sequence

TESTS = ("above", "below", "own", "not above", "not below", "not own")


class Row:
    """A row of a tool. It is not made itself: it is a `Run`, a `Lead` or a `Join`."""

    def __init__(self, words, marks):
        self._words = words
        # "any", "here" and "came" are no names, so what is left are the marks that the row names.
        self.named = tuple([mark for mark in marks if is_name(mark)])

    @classmethod
    def read(cls, text):
        """The row with this text."""
        try:
            row = _row(text.split(" "))
        except InvalidRow:
            raise InvalidText(0) from None
        if row is None:
            raise InvalidText(0)
        return row

    def __eq__(self, other):
        return isinstance(other, Row) and str(self) == str(other)

    def __str__(self):
        return " ".join(self._words)


class Run(Row):
    """A row of the program that is run and has the mark `old` gets the mark `then`."""

    def __init__(self, old, then):
        if not _is_wanted(old):
            raise InvalidRow("old")
        if not is_name(then):
            raise InvalidRow("then")
        self.old = old
        self.then = then
        super().__init__(("run", old, "to", then), (old, then))

    def fits(self, mark):
        return self.old in ("any", mark)


class Lead(Row):
    """Led to a newer text, a row with the mark `old` gets the mark `then`, if all tests hold."""

    def __init__(self, tests, old, then):
        if not _are_tests(tests):
            raise InvalidRow("tests")
        if not _is_wanted(old):
            raise InvalidRow("old")
        if not is_name(then):
            raise InvalidRow("then")
        self.tests = tuple(tests)
        self.old = old
        self.then = then
        super().__init__(("lead", " and ".join(tests) or "always", old, "to", then), (old, then))

    def fits(self, mark):
        return self.old in ("any", mark)

    def holds(self, same):
        """Whether all tests hold, by a tuple of three bools in the order of frames."""
        return all([is_same(same, part_of(test)) == (test in PARTS) for test in self.tests])


class Join(Row):
    """Where the mark `came` comes to a row with the mark `here`, the row gets the mark `then`."""

    def __init__(self, here, came, then):
        if not _is_wanted(here):
            raise InvalidRow("here")
        if not _is_wanted(came):
            raise InvalidRow("came")
        if not is_name(then) and then not in ("here", "came"):
            raise InvalidRow("then")
        self.here = here
        self.came = came
        self.then = then
        super().__init__(("join", here, came, "to", then), (here, came, then))

    def meets(self, here, came):
        return self.here in ("any", here) and self.came in ("any", came)


def part_of(test):
    return test.split(" ")[-1]


def _is_wanted(value):
    return is_name(value) or value == "any"


def _are_tests(value):
    if not is_sequence(value) or not all([test in TESTS for test in value]):
        return False
    return are_different([part_of(test) for test in value])


def _row(words):
    """The row of these words, or None if they are no row's."""
    many = len(words)
    if words[0] == "run" and many == 4 and words[2] == "to":
        return Run(words[1], words[3])
    if words[0] == "lead" and many > 4 and words[-2] == "to":
        return Lead(_tests(words[1:-3]), words[-3], words[-1])
    if words[0] == "join" and many == 5 and words[3] == "to":
        return Join(words[1], words[2], words[4])
    return None


def _tests(words):
    return [] if words == ["always"] else " ".join(words).split(" and ")
