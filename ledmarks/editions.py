"""Editions: texts, with the rows of the text ahead from which their rows came."""

from ledmarks.errors import InvalidEdition, InvalidText
from ledmarks.words import check_row, is_decimal, is_name, is_number, is_sequence


class Edition:
    """A text: pairs of a content and the number of the elder row, or None for a new row."""

    def __init__(self, rows):
        if not is_sequence(rows):
            raise InvalidEdition(0)
        wrong = _first_wrong(rows)
        if wrong is not None:
            raise InvalidEdition(wrong)
        self.rows = tuple(rows)

    @classmethod
    def read(cls, text):
        """The edition with this text."""
        if text == "-":
            return cls([])
        pairs = [_pair(word) for word in text.split(" ")]
        wrong = _first_wrong(pairs)
        if wrong is not None:
            raise InvalidText(wrong)
        return cls(pairs)

    def frame(self, at):
        """The contents of the row above, of the row, of the row below."""
        check_row(self.rows, at)
        above = self.rows[at - 1][0] if at > 0 else ""
        below = self.rows[at + 1][0] if at + 1 < len(self.rows) else ""
        return (above, self.rows[at][0], below)

    def __len__(self):
        return len(self.rows)

    def __getitem__(self, at):
        check_row(self.rows, at)
        return self.rows[at]

    def __iter__(self):
        raise TypeError("an edition is not iterable")

    def __eq__(self, other):
        return isinstance(other, Edition) and self.rows == other.rows

    def __str__(self):
        return " ".join([_word(content, elder) for content, elder in self.rows] or ["-"])


def same(one, other):
    """Which contents of two frames are equal: above, own, below."""
    return (one[0] == other[0], one[1] == other[1], one[2] == other[2])


def _first_wrong(rows):
    """The number of the first thing that is no pair, or names an elder again; None if there is none."""
    elders = []
    for at, row in enumerate(rows):
        if not _is_pair(row) or row[1] in elders:
            return at
        if row[1] is not None:
            elders.append(row[1])
    return None


def _is_pair(row):
    if not isinstance(row, tuple) or len(row) != 2:
        return False
    return is_name(row[0]) and (row[1] is None or is_number(row[1]))


def _pair(word):
    """The pair with this text, or None if no pair has it; whether the content is a name is not looked at."""
    content, colon, elder = word.partition(":")
    if colon == "":
        return (content, None)
    return (content, int(elder)) if is_decimal(elder) else None


def _word(content, elder):
    return content if elder is None else f"{content}:{elder}"
