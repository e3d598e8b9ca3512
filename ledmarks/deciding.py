"""What is decided for all texts, edits, runs, machines and delays."""

from ledmarks.pairs import OneTool
from ledmarks.steps import FAULTS, check_fault, meetings
from ledmarks.telling import told_story
from ledmarks.ways import added, came_ways, head_ways, machine_ways, price_at_head


def happens(tool, fault):
    """Whether some story meets the fault."""
    check_fault(fault)
    return happening(tool, [fault]) != ()


def faults(tool):
    """The faults that happen."""
    return happening(tool, FAULTS)


def happening(tool, wanted):
    """Those of these faults that happen."""
    came, head = _reached(tool)
    return tuple([fault for fault in wanted if _cheapest(tool, fault, came, head) is not None])


def fewest(tool, fault):
    """The least number of hearings of any story that meets the fault, or None."""
    check_fault(fault)
    came, head = _reached(tool)
    found = _cheapest(tool, fault, came, head)
    return None if found is None else found[0][0]


def story(tool, fault):
    """Some story with the fewest hearings that meets the fault behind its last event, or None."""
    check_fault(fault)
    came, head = _reached(tool)
    found = _cheapest(tool, fault, came, head)
    if found is None:
        return None
    _, steps, lying = found
    return told_story(tool.clears, came, steps, lying)


def lists(tool):
    """The pairs of mark and known that a row can have in a machine's book, and in the head's."""
    _, head = _reached(tool)
    return (tuple(sorted(machine_ways(OneTool(tool)))), tuple(sorted(head)))


def _reached(tool):
    """The ways of all that can come to the head, and of all that a row can have there."""
    rule = OneTool(tool)
    came = came_ways(rule)
    return (came, head_ways(rule, came))


def _cheapest(tool, fault, came, head):
    """The cheapest way to meet the fault: its cost, the head's steps, what comes by messages not heard; or None."""
    found = None
    for pair in head:
        for steps, lying in meetings(tool, fault, pair, list(came)):
            cost = _cost(head[pair][0], steps, lying, came)
            if found is None or cost < found[0]:
                found = (cost, head[pair][1] + steps, lying)
    return found


def _cost(cost, steps, lying, came):
    for step in steps:
        cost = added(cost, price_at_head(step, came))
    for pair in lying:
        cost = added(cost, came[pair][0])
    return cost
