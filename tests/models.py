"""What DOC.md says of runs and of what is decided, told once more: slowly, and in other words than in the program.

A row of a text is a thing of its own here, which knows the row from which it came.
"""

import itertools

from ledmarks.editions import Edition
from ledmarks.rows import Join, Lead, Row, Run
from ledmarks.stories import Story
from ledmarks.tools import Tool

EIGHT = list(itertools.product([False, True], repeat=3))


class Thing:
    """A row of a text."""

    def __init__(self, frame, elder):
        self.frame = frame
        self.elder = elder

    def line(self):
        """The row itself, and those from which it came."""
        thing = self
        while thing is not None:
            yield thing
            thing = thing.elder


class World:
    """A tool, to which a story happens."""

    def __init__(self, tool, story):
        self.tool = tool
        self.texts = []
        self.runs = []
        self.messages = []
        self.add_text(story.first)
        self.head = self.blank(0)
        self.machines = [self.blank(0) for _ in range(story.machines)]
        self.now = set()
        self.met = set()
        # All that any row had in a machine's book, in the head's book; the hearings at which each fault was first met.
        self.seen = (set(), set())
        self.heard = 0
        self.first_met = {}
        self.look()
        for event in story.events:
            self.happen(event)
            self.look()

    def add_text(self, edition):
        contents = ["", *[content for content, _ in edition.rows], ""]
        self.texts.append([Thing(tuple(contents[at:at + 3]), None if elder is None else self.texts[-1][elder])
                           for at, (_, elder) in enumerate(edition.rows)])

    def blank(self, number):
        return (number, {thing: (self.tool.blank, False) for thing in self.texts[number]})

    def same(self, one, other):
        return tuple(mine == yours for mine, yours in zip(one.frame, other.frame))

    def led(self, book):
        """The book, led to the newest text, and which rows of this had come from a row of it."""
        number, told = book
        newest = len(self.texts) - 1
        if number == newest:
            return book, set(told)
        pairs, there = {}, set()
        for thing in self.texts[newest]:
            pairs[thing] = (self.tool.blank, False)
            for elder in thing.line():
                if elder in told:
                    mark, known = told[elder]
                    same = self.same(elder, thing)
                    pairs[thing] = (self.tool.led(mark, same), known and self.tool.keeps(same))
                    there.add(thing)
        return (newest, pairs), there

    def hearing(self, head, message):
        """The head's pairs behind a hearing."""
        (_, came), there = self.led(message)
        after = dict(head)
        for thing in there:
            after[thing] = (self.tool.joined(head[thing][0], came[thing][0]), head[thing][1] or came[thing][1])
        return after

    def happen(self, event):
        word, *numbers = event.split(" ")
        before = self.head[1]
        if word == "edit":
            self.add_text(Edition.read(event[5:]))
            self.head = self.led(self.head)[0]
        elif word == "fetch":
            self.machines[int(numbers[0])] = self.led(self.machines[int(numbers[0])])[0]
        elif word == "run":
            self.run(*[int(number) for number in numbers])
        elif word == "send":
            book = self.machines[int(numbers[0])]
            self.messages.append(book)
            if self.tool.clears:
                self.machines[int(numbers[0])] = self.blank(book[0])
        else:
            self.head = (self.head[0], self.hearing(self.head[1], self.messages[int(numbers[0])]))
            self.heard += 1
        self.judge(before)

    def run(self, machine, *rows):
        number, pairs = self.machines[machine]
        pairs = dict(pairs)
        for row in rows:
            thing = self.texts[number][row]
            pairs[thing] = (self.tool.ran(pairs[thing][0]), True)
            self.runs.append(thing)
        self.machines[machine] = (number, pairs)

    def told(self, pair):
        return pair[0] in self.tool.told

    def judge(self, before):
        self.now = set()
        pairs = self.head[1]
        for row, thing in enumerate(self.texts[-1]):
            if not self.told(pairs[thing]):
                for elder in list(thing.line())[:2]:
                    if elder in before and self.told(before[elder]) and self.tool.keeps(self.same(elder, thing)):
                        self.now.add(("fallen", row))
                if pairs[thing][1]:
                    self.now.add(("missed", row))
            elif not any(elder in self.runs and self.tool.keeps(self.same(elder, thing)) for elder in thing.line()):
                self.now.add(("false", row))
        self.judge_hearings(pairs)
        for fault, _ in self.now:
            self.met.add(fault)
            self.first_met.setdefault(fault, self.heard)

    def judge_hearings(self, pairs):
        once = [self.hearing(pairs, message) for message in self.messages]
        for one, other in itertools.product(range(len(once)), repeat=2):
            forth = self.hearing(once[one], self.messages[other])
            back = self.hearing(once[other], self.messages[one]) if one != other else once[one]
            for row, thing in enumerate(self.texts[-1]):
                if forth[thing][0] != back[thing][0]:
                    self.now.add(("twice" if one == other else "order", row))

    def look(self):
        for _, pairs in [*self.machines, *self.messages]:
            self.seen[0].update(pairs.values())
        self.seen[1].update(self.head[1].values())

    def triple(self, book):
        number, pairs = book
        things = self.texts[number]
        return (number, tuple(pairs[thing][0] for thing in things), tuple(pairs[thing][1] for thing in things))

    def lacking(self, base):
        rows = []
        for row, thing in enumerate(self.texts[-1]):
            there = [elder for elder in thing.line() if elder in self.texts[base]]
            if not self.told(self.head[1][thing]) and not (there and self.tool.keeps(self.same(there[0], thing))):
                rows.append(row)
        return tuple(rows)


def attributes(played):
    return {name: getattr(played, name) for name in ("marks", "known", "told", "books", "sent", "now", "met")}


def wanted_attributes(tool, story):
    """What `play` should give."""
    world = World(tool, story)
    _, marks, known = world.triple(world.head)
    return {"marks": marks, "known": known,
            "told": tuple(row for row, mark in enumerate(marks) if mark in tool.told),
            "books": tuple(world.triple(book) for book in world.machines),
            "sent": tuple(world.triple(book) for book in world.messages),
            "now": tuple(sorted(world.now)), "met": tuple(sorted(world.met))}


def led(tool, pair, same):
    return (tool.led(pair[0], same), pair[1] and tool.keeps(same))


def next_on_machines(tool, pair):
    return {(tool.blank, False), (tool.ran(pair[0]), True)} | {led(tool, pair, same) for same in EIGHT}


def that_can_come(tool, sent):
    return set(sent) | {led(tool, pair, same) for pair in sent for same in EIGHT}


def next_by_edits(tool, pair):
    return {led(tool, pair, same) for same in EIGHT}


def next_by_hearings(tool, pair, came):
    return {(tool.joined(pair[0], mark), pair[1] or known) for mark, known in came}


def spread(things, follow):
    """All that is reached from the things."""
    found = set(things)
    while True:
        more = found.union(*[follow(thing) for thing in found])
        if more == found:
            return found
        found = more


def wanted_lists(tool):
    """What `lists` should give, as sets."""
    machines = spread({(tool.blank, False)}, lambda pair: next_on_machines(tool, pair))
    came = that_can_come(tool, machines)
    return machines, spread({(tool.blank, False)},
                            lambda pair: next_by_edits(tool, pair) | next_by_hearings(tool, pair, came))


def is_met(tool, fault, pair, came, by_hearing):
    """Whether the fault is met at a pair of the head; `fallen` by a hearing or by an edit."""
    mark, known = pair
    told = mark in tool.told
    if fault == "false":
        return told and not known
    if fault == "missed":
        return known and not told
    if fault == "fallen":
        edits = {tool.led(mark, same) for same in EIGHT if tool.keeps(same)}
        after = {tool.joined(mark, other) for other, _ in came} if by_hearing else edits
        return told and bool(after - set(tool.told))
    joined = tool.joined
    if fault == "twice":
        return any(joined(joined(mark, one), one) != joined(mark, one) for one, _ in came)
    return any(joined(joined(mark, one), other) != joined(joined(mark, other), one)
               for (one, _), (other, _) in itertools.product(came, repeat=2))


def wanted_fewest(tool, fault):
    """What `fewest` should give."""
    came = that_can_come(tool, wanted_lists(tool)[0])
    reached = spread({(tool.blank, False)}, lambda pair: next_by_edits(tool, pair))
    for hearings in range(2 * len(tool.marks) + 1):
        if any(is_met(tool, fault, pair, came, False) for pair in reached):
            return hearings
        if fault == "fallen" and any(is_met(tool, fault, pair, came, True) for pair in reached):
            return hearings + 1
        reached |= {after for pair in reached for after in next_by_hearings(tool, pair, came)}
        reached = spread(reached, lambda pair: next_by_edits(tool, pair))
    return None


def wanted_holds(tool, fault, machines, head):
    """What `paper_holds` should give for two tuples of pairs."""
    machines, head = set(machines), set(head)
    if not (tool.blank, False) in machines & head:
        return False
    came = that_can_come(tool, machines)
    if not all(next_on_machines(tool, pair) <= machines for pair in machines):
        return False
    if not all(next_by_edits(tool, pair) | next_by_hearings(tool, pair, came) <= head for pair in head):
        return False
    return not any(is_met(tool, fault, pair, came, way) for pair in head for way in (False, True))


def wanted_happening(tool, wanted):
    """Which of these faults happen, as a set."""
    return {fault for fault in wanted if wanted_fewest(tool, fault) is not None}


def wanted_parting(p, q):
    """With how few hearings two tools tell unlike rows; None if they never do."""
    start = {(p.blank, q.blank)}

    def by_leading(pair):
        return {(p.led(pair[0], same), q.led(pair[1], same)) for same in EIGHT}

    def by_machines(pair):
        ran = (p.ran(pair[0]), q.ran(pair[1]))
        sent = (p.blank if p.clears else pair[0], q.blank if q.clears else pair[1])
        return {ran, sent} | by_leading(pair)

    def by_hearings(pair):
        return {(p.joined(pair[0], one), q.joined(pair[1], other)) for one, other in came}

    sent = spread(start, by_machines)
    came = sent.union(*[by_leading(pair) for pair in sent])
    reached, ahead, many = spread(start, by_leading), set(), 0
    while reached != ahead:
        if any((one in p.told) != (other in q.told) for one, other in reached):
            return many
        ahead, many = reached, many + 1
        reached = spread(reached.union(*[by_hearings(pair) for pair in reached]), by_leading)
    return None


def wanted_twins(tool):
    """What `twins` should give: pairs of marks are taken to be one, until something shows that they are not."""
    def shown(one, other):
        ways = [tool.ran, *[lambda mark, same=same: tool.led(mark, same) for same in EIGHT],
                *[lambda mark, came=came: tool.joined(mark, came) for came in tool.marks],
                *[lambda mark, here=here: tool.joined(here, mark) for here in tool.marks]]
        return any((way(one), way(other)) not in pairs for way in ways)

    pairs = {(one, other) for one, other in itertools.product(tool.marks, repeat=2)
             if (one in tool.told) == (other in tool.told)}
    while any(shown(*pair) for pair in pairs):
        pairs = {pair for pair in pairs if not shown(*pair)}
    parts = [tuple(other for other in tool.marks if (mark, other) in pairs) for mark in tool.marks]
    return tuple(part for at, part in enumerate(parts) if part not in parts[:at])


def some_tool(dice, marks=3, rows=8, anys=0.3):
    """Any tool, by a thing that gives random numbers."""
    names = ["none", "run", "old", "b", "c"][:marks]

    def mark(among):
        return "any" if dice.random() < anys else dice.choice(among)

    made = []
    for _ in range(dice.randint(0, rows)):
        kind = dice.choice([Run, Lead, Lead, Join, Join])
        if kind is Run:
            made.append(Run(mark(names), dice.choice(names)))
        elif kind is Join:
            made.append(Join(mark(names), mark(names), dice.choice([*names, "here", "came"])))
        else:
            tests = [dice.choice(["", "", "not "]) + part for part in ("above", "below", "own") if dice.random() < 0.4]
            made.append(Lead(tests, mark(names[1:]) if marks > 1 else "any", dice.choice(names)))
    # Most tools should make something of a run, and of what comes.
    made += dice.sample([Run("any", names[-1]), Join("any", "any", "came"), Join("any", names[-1], "came"),
                         Lead(["own"], "any", names[-1]), Lead([], "any", dice.choice(names))], dice.randint(2, 4))
    told = [name for name in names[1:] if dice.random() < 0.7]
    parts = ["own", *[part for part in ("above", "below") if dice.random() < 0.4]]
    return Tool(names, told, parts, dice.random() < 0.5, made)


def full_tool(dice, marks=4, share=0.3):
    """Any tool of rows that fit one mark or two each, so that much is told apart; it has any number of rows."""
    names = ["none", "a", "b", "c", "d"][:marks]
    rows = [Run(name, dice.choice(names)) for name in names if dice.random() < 0.8]
    for name in names:
        rows += [Join(name, came, dice.choice(names)) for came in names if dice.random() < share]
    for name, same in itertools.product(names[1:], EIGHT):
        if dice.random() < share:
            tests = [("" if like else "not ") + part for part, like in zip(("above", "own", "below"), same)]
            rows.append(Lead(tests, name, dice.choice(names)))
    told = names[1:][-1:] if dice.random() < 0.7 else names[1:]
    return Tool(names, told, ["own"], dice.random() < 0.5, rows)


def split_tool(dice, tool):
    """The tool with two marks in the place of its last one, which are one."""
    last, more = tool.marks[-1], "vwxyz"[len(tool.marks) - 1]

    def both(words):
        """The words with each choice of the two marks for the last one."""
        return itertools.product(*[(last, more) if word == last else (word,) for word in words])

    rows = []
    for row in tool.rows:
        then = dice.choice([last, more]) if row.then == last else row.then
        if isinstance(row, Join):
            rows += [Join(here, came, then) for here, came in both([row.here, row.came])]
        elif isinstance(row, Run):
            rows += [Run(old, then) for old, in both([row.old])]
        else:
            rows += [Lead(row.tests, old, then) for old, in both([row.old])]
    told = [*tool.told, more] if last in tool.told else tool.told
    return Tool([*tool.marks, more], told, tool.parts, tool.clears, rows)


def another_tool(dice, tool):
    """A tool that is perhaps alike: rows in another order, left out, or with another mark; it clears or not."""
    rows = list(tool.rows)
    for _ in range(dice.randint(0, 2)):
        at = dice.randrange(len(rows)) if rows else None
        way = dice.choice(["exchange", "remove", "rename"])
        if at is None:
            continue
        if way == "exchange":
            rows.append(rows.pop(at))
        elif way == "remove":
            rows.pop(at)
        else:
            words = str(rows[at]).split(" ")
            rows[at] = Row.read(" ".join([*words[:-1], dice.choice(tool.marks)]))
    clears = tool.clears if dice.random() < 0.6 else not tool.clears
    told = tool.told if dice.random() < 0.8 else tool.told[:1]
    return Tool(tool.marks, told, tool.parts, clears, rows)


def some_edit(dice, ahead, most=4):
    """Any text behind this one, in which many rows stay what they were."""
    rows = []
    for elder, (content, _) in enumerate(ahead.rows):
        if dice.random() < 0.2:
            rows.append(dice.choice("abc"))
        if dice.random() < 0.85:
            rows.append(f"{content if dice.random() < 0.6 else dice.choice('abc')}:{elder}")
    if dice.random() < 0.2:
        dice.shuffle(rows)
    return " ".join(rows[:most]) or "-"


def some_story(dice, events=12, machines=2, most=4):
    """Any story: what is not possible is left out."""
    first = " ".join([dice.choice("abc") for _ in range(dice.randint(1, most))])
    story = Story(Edition.read(first), machines)
    held, sent = [0] * machines, 0
    for _ in range(events):
        machine = dice.randrange(machines)
        word = dice.choice(["edit", "fetch", "run", "run", "send", "send", "hear", "hear", "hear"])
        if word == "edit":
            event = "edit " + some_edit(dice, story.editions[-1], most)
        elif word == "run":
            rows = [row for row in range(len(story.editions[held[machine]])) if dice.random() < 0.6]
            event = " ".join(["run", str(machine), *[str(row) for row in rows]])
        elif word == "hear":
            if sent == 0:
                continue
            event = f"hear {dice.randrange(sent)}"
        else:
            event = f"{word} {machine}"
        if word == "fetch":
            held[machine] = len(story.editions) - 1
        sent += word == "send"
        story = story.more([event])
    return story
