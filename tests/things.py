"""Values for the tests: any values that a function may be passed."""

from ledmarks.desk import Desk
from ledmarks.editions import Edition
from ledmarks.errors import InvalidFault, InvalidRow, NoMark, NoRow
from ledmarks.live import Live
from ledmarks.rows import Join, Lead, Run
from ledmarks.runs import play
from ledmarks.stories import Story
from ledmarks.tools import Tool

LINES = (
    "marks none run", "told run", "parts own", "send clear",
    "run any to run", "lead own run to run", "join any run to run",
)


def plain():
    return Tool.read("\n".join(LINES))


def near():
    return Tool.read("\n".join(LINES).replace("parts own", "parts own above below"))


def last():
    return Tool.read("\n".join([*LINES[:6], "join any any to came"]))


def third():
    return Tool.read("\n".join(["marks none run old", "told run old", "parts own", "send clear", "run any to run",
                                "lead own any to old", "join none any to came"]))


def story(text, machines, *events):
    return Story(Edition.read(text), machines, events)


def hearings(one):
    return len([event for event in one.events if event.startswith("hear ")])


def nested(thing, deep=8):
    for at in range(deep):
        thing = [thing] if at % 2 else (thing,)
    return thing


NUMBERS = [0, 1, -1, 2, 7, 10 ** 40, -10 ** 40, True, False]
STRINGS = ["", " ", "a", "abcd", "abcde", "A", "aB", "a1", "a b", "a ", "-", "0", "a:0", "\n", "a\n", "_", "\u00e9",
           "\u00b2", "and", "any", "came", "here", "not", "own", "to", "above", "below", "not own", "not above",
           "own and above", "always", "run any to a"]
OBJECTS = [Run("any", "a"), Lead([], "any", "a"), Join("any", "any", "here"), plain(), Edition([("a", None)]),
           Edition([]), NoRow(1), InvalidRow("old"), InvalidFault(), NoMark("a"), story("a b", 1, "run 0 1", "send 0"),
           play(plain(), story("a", 2, "send 1")), Live(plain(), Edition.read("a b")), Desk()]
NESTED = [(), [], (None,), [[]], ["a"], ("a",), ["own"], [("own",)], ("a", 0), ["a", 0], nested("own"), nested(()),
          nested(OBJECTS[0]), nested(OBJECTS[3]), [True, "a"], ("a", "b"), [plain()]]
ANY = [None, *NUMBERS, *STRINGS, *OBJECTS, *NESTED]

FAULTS = ["fallen", "false", "missed", "order", "twice"]

# Spelled out by hand, not taken from the program.
NAMES = ["a", "z", "ab", "abc", "abcd", "run", "lead", "join", "told", "keep", "send", "anyx", "ow", "owns", "an", "t"]
TAKEN = ["and", "any", "came", "here", "not", "own", "to"]
NO_NAMES = ["", "abcde", "A", "aB", "a1", "1", "a b", " a", "a ", "-", "a:0", "a\n", "_", "a_b", "\u00e9", "always",
            "above", "below", *TAKEN]
