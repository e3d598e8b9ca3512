"""What is decided for all texts, edits, runs, machines and delays."""

from ledmarks.steps import FAULTS, check_fault, meetings
from ledmarks.telling import told_story
from ledmarks.ways import added, came_ways, head_ways, machine_ways, price_at_head


def happens(tool, fault):
    """Whether some story meets the fault."""
    check_fault(fault)
    return _cheapest(tool, fault) is not None


def faults(tool):
    """The faults that happen."""
    return tuple([fault for fault in FAULTS if happens(tool, fault)])


def fewest(tool, fault):
    """The least number of hearings of any story that meets the fault, or None."""
    check_fault(fault)
    found = _cheapest(tool, fault)
    return None if found is None else found[0][0]


def story(tool, fault):
    """Some story with the fewest hearings that meets the fault behind its last event, or None."""
    check_fault(fault)
    found = _cheapest(tool, fault)
    if found is None:
        return None
    _, steps, lying = found
    return told_story(tool, came_ways(tool, machine_ways(tool)), steps, lying)


def lists(tool):
    """The pairs of mark and known that a row can have in a machine's book, and in the head's."""
    machines = machine_ways(tool)
    head = head_ways(tool, came_ways(tool, machines))
    return (tuple(sorted(machines)), tuple(sorted(head)))


def _cheapest(tool, fault):
    """The cheapest way to meet the fault: its cost, the head's steps, what comes by messages not heard; or None."""
    came = came_ways(tool, machine_ways(tool))
    head = head_ways(tool, came)
    found = None
    for pair in head:
        for steps, lying in meetings(tool, fault, pair, list(came)):
            cost = _cost(head[pair][0], steps, lying, came)
            if found is None or cost < found[0]:
                found = (cost, head[pair][1] + steps, lying)
    return found


def _cost(cost, steps, lying, came):
    for step in steps:
        cost = added(cost, price_at_head(step, came))
    for pair in lying:
        cost = added(cost, came[pair][0])
    return cost
