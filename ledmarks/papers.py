"""Papers: pairs of lists that show to anybody that a fault does not happen."""

from ledmarks.deciding import happens, lists
from ledmarks.pairs import OneTool
from ledmarks.steps import arrivals, check_fault, head_steps, machine_steps, meetings


def paper(tool, fault):
    """Some right paper for the fault, or None if it happens."""
    return None if happens(tool, fault) else lists(tool)


def paper_holds(tool, fault, value):
    """Whether any value is a right paper for the fault."""
    check_fault(fault)
    if not isinstance(value, tuple) or len(value) != 2:
        return False
    if not all([_is_list(tool, part) for part in value]):
        return False
    machines, head = value
    rule = OneTool(tool)
    if not _is_closed(rule, machines, [machine_steps(rule, pair) for pair in machines]):
        return False
    came = _coming(rule, machines)
    if not _is_closed(rule, head, [head_steps(rule, pair, came) for pair in head]):
        return False
    return all([meetings(tool, fault, pair, came) == [] for pair in head])


def _is_list(tool, value):
    return isinstance(value, tuple) and all([_is_pair(tool, pair) for pair in value])


def _is_pair(tool, value):
    if not isinstance(value, tuple) or len(value) != 2:
        return False
    mark, known = value
    return mark in tool.marks and isinstance(known, bool)


def _is_closed(rule, pairs, steps):
    """Whether the beginning is in the list, and each of these steps leads to a pair in it."""
    return rule.start in pairs and all([after in pairs for some in steps for _, after in some])


def _coming(rule, machines):
    """The pairs that can come to the head by these of the machines, each one once."""
    came = {}
    for pair in machines:
        for _, other in arrivals(rule, pair):
            came[other] = True
    return list(came)
