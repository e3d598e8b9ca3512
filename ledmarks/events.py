"""Events: the strings that a story is made of, and what they say."""

from ledmarks.editions import Edition
from ledmarks.errors import InvalidText
from ledmarks.words import is_decimal


def read_event(value):
    """What an event says: its word, its edition or first number, its rows. None for any value that is no event."""
    if not isinstance(value, str):
        return None
    word, _, rest = value.partition(" ")
    if word == "edit":
        return _edit(rest)
    numbers = rest.split(" ")
    if not all([is_decimal(number) for number in numbers]):
        return None
    return _numbered(word, [int(number) for number in numbers])


def _edit(text):
    try:
        edition = Edition.read(text)
    except InvalidText:
        return None
    return ("edit", edition, ())


def _numbered(word, numbers):
    first, *rows = numbers
    if word in ("fetch", "send", "hear") and rows == []:
        return (word, first, ())
    if word == "run" and all([row < below for row, below in zip(rows, rows[1:])]):
        return (word, first, tuple(rows))
    return None
