"""Tools beside each other: whether they tell the same rows, and which marks of a tool are one."""

from ledmarks.pairs import TwoTools
from ledmarks.rows import Join, Lead, Run
from ledmarks.steps import PATTERNS
from ledmarks.telling import told_story
from ledmarks.tools import Tool
from ledmarks.ways import came_ways, head_ways


def alike(p, q):
    """Whether two tools tell the same rows of the head behind each story."""
    return _parted(p, q, came_ways(TwoTools(p, q))) is None


def parting(p, q):
    """Some story with the fewest hearings behind which two tools tell unlike rows, or None."""
    rule = TwoTools(p, q)
    came = came_ways(rule)
    steps = _parted(p, q, came)
    return None if steps is None else told_story(rule.clears, came, steps, ())


def twins(tool):
    """The marks that are one: tuples of marks of which the same becomes."""
    parts = ()
    finer = _parts(tool, [mark in tool.told for mark in tool.marks])
    while len(finer) > len(parts):
        parts = finer
        finer = _parts(tool, _signs(tool, parts))
    return parts


def merged(tool):
    """The tool with the first one of the marks that are one in the place of each of them."""
    first = {mark: part[0] for part in twins(tool) for mark in part}
    marks = [mark for mark in tool.marks if first[mark] == mark]
    told = [mark for mark in marks if mark in tool.told]
    rows = [_renamed(row, first) for row in tool.rows if not _leads_from(tool.blank, row, first)]
    return Tool(marks, told, tool.parts, tool.clears, rows)


def _parted(p, q, came):
    """The head's cheapest steps to marks of which only one is told, or None."""
    head = head_ways(TwoTools(p, q), came)
    unlike = [head[pair] for pair in head if (pair[0] in p.told) != (pair[1] in q.told)]
    return min(unlike, key=lambda way: way[0])[1] if unlike else None


def _parts(tool, signs):
    """The marks with the same sign together; there is a sign for each mark."""
    parts = {}
    for mark, sign in zip(tool.marks, signs):
        parts.setdefault(sign, []).append(mark)
    return tuple([tuple(part) for part in list(parts.values())])


def _signs(tool, parts):
    """For each mark the numbers of its part and of those of what becomes of it."""
    number = {mark: at for at, part in enumerate(parts) for mark in part}
    return [tuple([number[other] for other in _becoming(tool, mark)]) for mark in tool.marks]


def _becoming(tool, mark):
    """The mark itself, and all that can become of it in one step."""
    led = [tool.led(mark, same) for same in PATTERNS]
    as_here = [tool.joined(mark, other) for other in tool.marks]
    as_came = [tool.joined(other, mark) for other in tool.marks]
    return [mark, tool.ran(mark), *led, *as_here, *as_came]


def _leads_from(blank, row, first):
    return isinstance(row, Lead) and first.get(row.old, row.old) == blank


def _renamed(row, first):
    """The row with the first mark of its part in the place of each mark; other words stay."""
    then = first.get(row.then, row.then)
    if isinstance(row, Run):
        return Run(first.get(row.old, row.old), then)
    if isinstance(row, Lead):
        return Lead(row.tests, first.get(row.old, row.old), then)
    return Join(first.get(row.here, row.here), first.get(row.came, row.came), then)
