"""What names, parts, numbers and sequences are, for all modules."""

from ledmarks.errors import NoRow

LETTERS = "abcdefghijklmnopqrstuvwxyz"
DIGITS = "0123456789"
TAKEN = ("and", "any", "came", "here", "not", "own", "to")

# Parts are listed with the own content last, but frames have it in the middle.
PARTS = ("above", "below", "own")
FRAME = ("above", "own", "below")


def is_sequence(value):
    return isinstance(value, (list, tuple))


def is_number(value):
    return isinstance(value, int) and not isinstance(value, bool) and value >= 0


def is_name(value):
    if not isinstance(value, str) or not 1 <= len(value) <= 4:
        return False
    return value not in TAKEN and all([letter in LETTERS for letter in value])


def are_names(values):
    return all([is_name(value) for value in values])


def are_parts(values):
    return all([value in PARTS for value in values])


def are_different(words):
    return len(set(words)) == len(words)


def is_decimal(text):
    """Whether the text is a number as texts have it: one or two digits, no zero ahead of another digit."""
    if not 1 <= len(text) <= 2 or not all([letter in DIGITS for letter in text]):
        return False
    return text == "0" or text[0] != "0"


def is_same(same, part):
    """Whether a part is the same, by a tuple of three bools in the order of frames."""
    return same[FRAME.index(part)]


def check_row(rows, at):
    # Python would count numbers below 0 from the end.
    if not 0 <= at < len(rows):
        raise NoRow(at)
