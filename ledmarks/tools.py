"""Tools: a few marks, and rows that tell what becomes of them."""

from ledmarks.errors import InvalidText, InvalidTool, NoMark
from ledmarks.rows import Join, Lead, Row, Run, part_of
from ledmarks.words import PARTS, are_different, are_names, are_parts, check_row, is_same, is_sequence

HEADS = ("marks", "told", "parts")
SENDS = ("send keep", "send clear")


class Tool:
    """The marks, those that are told as run, the promise's parts, whether a machine clears, the rows."""

    def __init__(self, marks, told, parts, clears, rows):
        wrong = _wrong(marks, told, parts, clears, rows)
        if wrong is not None:
            raise InvalidTool(wrong)
        self.marks = tuple(marks)
        self.told = tuple([mark for mark in marks if mark in told])
        self.parts = tuple([part for part in PARTS if part in parts])
        self.clears = clears
        self.rows = tuple(rows)
        self.blank = marks[0]

    @classmethod
    def read(cls, text):
        """The tool with this text; the words behind `told` and `parts` may stand in any order."""
        lines = text.split("\n")
        for at, line in enumerate(lines[:4]):
            if not _can_stand(at, line):
                raise InvalidText(at)
        if len(lines) < 4:
            raise InvalidText(len(lines))
        rows = _rows(lines[4:])
        return cls(_behind(lines[0]), _behind(lines[1]), _behind(lines[2]), lines[3] == "send clear", rows)

    def ran(self, mark):
        """The mark of a row that had this one and is run."""
        self._look(mark)
        for row in self.rows:
            if isinstance(row, Run) and row.fits(mark):
                return row.then
        return mark

    def led(self, mark, same):
        """The mark in a newer text, by whether the row above, the row, the row below are the same."""
        self._look(mark)
        if mark == self.blank:
            return self.blank
        for row in self.rows:
            if isinstance(row, Lead) and row.fits(mark) and row.holds(same):
                return row.then
        return self.blank

    def joined(self, here, came):
        """The mark of a row that had the mark `here`, where the mark `came` comes."""
        self._look(here)
        self._look(came)
        for row in self.rows:
            if isinstance(row, Join) and row.meets(here, came):
                return _picked(row.then, here, came)
        return here

    def keeps(self, same):
        """Whether all parts of the promise are the same."""
        return all([is_same(same, part) for part in self.parts])

    def without(self, at):
        """The tool without this row."""
        check_row(self.rows, at)
        return Tool(self.marks, self.told, self.parts, self.clears, self.rows[:at] + self.rows[at + 1:])

    def heeding(self, parts):
        """The tool that does not look at other parts than these."""
        rows = [_heeding(row, parts) for row in self.rows if _can_hold(row, parts)]
        return Tool(self.marks, self.told, self.parts, self.clears, rows)

    def _look(self, name):
        if name not in self.marks:
            raise NoMark(name)

    def __len__(self):
        return len(self.rows)

    def __getitem__(self, at):
        check_row(self.rows, at)
        return self.rows[at]

    def __iter__(self):
        raise TypeError("a tool is not iterable")

    def __eq__(self, other):
        return isinstance(other, Tool) and str(self) == str(other)

    def __str__(self):
        return "\n".join(_lines(self))


def _wrong(marks, told, parts, clears, rows):
    """The word for what is wrong first, or None."""
    if not is_sequence(marks) or not marks or not are_names(marks) or not are_different(marks):
        return "marks"
    if not is_sequence(told) or not all([mark in marks[1:] for mark in told]) or not are_different(told):
        return "told"
    if not is_sequence(parts) or not are_parts(parts) or not are_different(parts) or "own" not in parts:
        return "parts"
    if not isinstance(clears, bool):
        return "clears"
    if not is_sequence(rows) or not all([isinstance(row, Row) for row in rows]):
        return "rows"
    if any([name not in marks for row in rows for name in row.named]):
        return "mark"
    if any([isinstance(row, Lead) and row.old == marks[0] for row in rows]):
        return "blank"
    return None


def _picked(then, here, came):
    if then == "here":
        return here
    return came if then == "came" else then


def _can_hold(row, parts):
    """Whether no test of the row wants a part to be the same that is none of these."""
    return not isinstance(row, Lead) or all([test in parts or test not in PARTS for test in row.tests])


def _heeding(row, parts):
    if not isinstance(row, Lead):
        return row
    return Lead([test for test in row.tests if part_of(test) in parts], row.old, row.then)


def _lines(tool):
    return [
        " ".join(["marks", *tool.marks]),
        " ".join(["told", *tool.told]),
        " ".join(["parts", *tool.parts]),
        "send clear" if tool.clears else "send keep",
        *[str(row) for row in tool.rows],
    ]


def _behind(line):
    return line.split(" ")[1:]


def _can_stand(at, line):
    """Whether the line can be the one with this number, one of the first four."""
    if at == 3:
        return line in SENDS
    words = _behind(line)
    if line.split(" ")[0] != HEADS[at]:
        return False
    if at == 2:
        return are_parts(words)
    return are_names(words) and (at == 1 or len(words) > 0)


def _rows(lines):
    rows = []
    for at, line in enumerate(lines, start=4):
        try:
            rows.append(Row.read(line))
        except InvalidText:
            raise InvalidText(at) from None
    return rows
