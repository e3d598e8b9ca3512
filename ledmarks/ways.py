"""The cheapest ways to what a row's pair can become, counted in hearings, then in events; a `rule` as in `steps`."""

from ledmarks.steps import arrivals, head_steps, machine_steps

# How many events a step takes; a fetch needs an edit ahead of it.
PRICES = {"run": 1, "send": 1, "fetch": 2, "edit": 1}


def came_ways(rule):
    """For each pair that can come to the head its cost, the machine's steps, the pattern or None if it is not led."""
    machines = machine_ways(rule)
    ways = {}
    for pair in machines:
        cost, steps = machines[pair]
        for same, came in arrivals(rule, pair):
            # To send is an event; what is to be led needs an edit behind it.
            way = (added(cost, (0, 1 if same is None else 2)), steps, same)
            if came not in ways or way[0] < ways[came][0]:
                ways[came] = way
    return ways


def machine_ways(rule):
    """For each pair in a machine's book its cost and its steps."""
    def steps(pair):
        return [(step, (0, PRICES[step[0]]), other) for step, other in machine_steps(rule, pair)]

    return _ways(rule.start, steps)


def head_ways(rule, came):
    """For each pair in the head's book its cost and its steps; `came` are the ways of what can come."""
    def steps(pair):
        return [(step, price_at_head(step, came), other) for step, other in head_steps(rule, pair, list(came))]

    return _ways(rule.start, steps)


def price_at_head(step, came):
    """What a step of the head costs, with all that must have happened for it."""
    word, thing = step
    return added(came[thing][0], (1, 1)) if word == "hear" else (0, PRICES[word])


def added(one, other):
    return (one[0] + other[0], one[1] + other[1])


def _ways(start, steps):
    ways = {start: ((0, 0), ())}
    todo = [start]
    while todo:
        pair = todo.pop(0)
        cost, path = ways[pair]
        for step, price, other in steps(pair):
            way = (added(cost, price), path + (step,))
            if other not in ways or way[0] < ways[other][0]:
                ways[other] = way
                todo.append(other)
    return ways
