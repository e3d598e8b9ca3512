"""The steps of one row: what a machine and the head can make of its pair, by whatever texts and runs.

A `rule` is a `OneTool` or a `TwoTools`.
"""

from ledmarks.errors import InvalidFault
from ledmarks.pairs import OneTool

FAULTS = ("fallen", "false", "missed", "order", "twice")

# Whether the row above, the row itself, the row below are the same in two editions.
PATTERNS = (
    (False, False, False), (False, False, True), (False, True, False), (False, True, True),
    (True, False, False), (True, False, True), (True, True, False), (True, True, True),
)


def check_fault(fault):
    if not isinstance(fault, str) or fault not in FAULTS:
        raise InvalidFault()


def machine_steps(rule, pair):
    """What becomes of a pair in a machine's book: a list of steps and pairs."""
    steps = [(("run", None), rule.ran(pair)), (("send", None), rule.left(pair))]
    return steps + [(("fetch", same), rule.led(pair, same)) for same in PATTERNS]


def arrivals(rule, pair):
    """What comes to the head of a pair that is sent: a list of patterns, or None where it is not led, and pairs."""
    return [(None, pair), *[(same, rule.led(pair, same)) for same in PATTERNS]]


def head_steps(rule, pair, came):
    """What becomes of a pair in the head's book: a list of steps and pairs; `came` are the pairs that can come."""
    edits = [(("edit", same), rule.led(pair, same)) for same in PATTERNS]
    return edits + [(("hear", other), rule.joined(pair, other)) for other in came]


def meetings(tool, fault, pair, came):
    """How the fault is met at the head: a list of pairs, the further steps and what comes by messages not heard."""
    mark, known = pair
    told = mark in tool.told
    if fault == "false":
        return [((), ())] if told and not known else []
    if fault == "missed":
        return [((), ())] if known and not told else []
    if fault == "order":
        pairs = [(one, other) for one in came for other in came]
        return [((), two) for two in pairs if order_matters(tool, mark, two[0][0], two[1][0])]
    if fault == "twice":
        return [((), (one,)) for one in came if second_matters(tool, mark, one[0])]
    if not told:
        return []
    return [((step,), ()) for step, after in head_steps(OneTool(tool), pair, came) if _falls(tool, step, after)]


def order_matters(tool, here, one, other):
    """Whether hearing the one mark, then the other one makes another mark than the other way about."""
    forth = tool.joined(tool.joined(here, one), other)
    return forth != tool.joined(tool.joined(here, other), one)


def second_matters(tool, here, came):
    """Whether hearing the mark twice makes another mark than once."""
    once = tool.joined(here, came)
    return tool.joined(once, came) != once


def _falls(tool, step, after):
    """Whether a told row is told no more behind this step, though its content is what it was."""
    word, same = step
    if word == "edit" and not tool.keeps(same):
        return False
    return after[0] not in tool.told
