"""Stories: a text, machines, and the events that happen, one behind the other."""

from ledmarks.editions import Edition
from ledmarks.errors import InvalidStory, InvalidText, NoEvent
from ledmarks.events import read_event
from ledmarks.words import is_decimal, is_number, is_sequence


class Story:
    """The first text, the number of machines, the events. `acts` has what the events say."""

    def __init__(self, first, machines, events=()):
        if not _is_first(first) or not _are_machines(machines) or not is_sequence(events):
            raise InvalidStory(0)
        past = Past(first, machines)
        for at, event in enumerate(events):
            act = read_event(event)
            if act is None or not past.allows(act):
                raise InvalidStory(at)
            past.go(act)
        self.first = first
        self.machines = machines
        self.events = tuple(events)
        self.acts = tuple(past.acts)
        self._editions = tuple(past.texts)

    @classmethod
    def read(cls, text):
        """The story with this text."""
        lines = text.split("\n")
        first = _read_first(lines[0])
        if first is None:
            raise InvalidText(0)
        machines = _read_machines(lines[1]) if len(lines) > 1 else None
        if machines is None:
            raise InvalidText(1)
        try:
            return cls(first, machines, lines[2:])
        except InvalidStory as error:
            raise InvalidText(error.at + 2) from None

    @property
    def editions(self):
        """All editions, the first one ahead."""
        return self._editions

    def upto(self, many):
        """The story with so many of its events, from the first on."""
        return Story(self.first, self.machines, self.events[:many])

    def more(self, events):
        """The story with further events behind its own ones."""
        if not is_sequence(events):
            raise InvalidStory(0)
        return Story(self.first, self.machines, [*self.events, *events])

    def elder(self, edition, row, other):
        """The row of the other, earlier edition from which a row came, or None if it came in later."""
        while edition > other and row is not None:
            row = self._editions[edition].rows[row][1]
            edition -= 1
        return row

    def __len__(self):
        return len(self.events)

    def __getitem__(self, at):
        # Python would count numbers below 0 from the end.
        if not 0 <= at < len(self.events):
            raise NoEvent(at)
        return self.events[at]

    def __iter__(self):
        raise TypeError("a story is not iterable")

    def __eq__(self, other):
        if not isinstance(other, Story):
            return False
        return self.first == other.first and self.machines == other.machines and self.events == other.events

    def __str__(self):
        return "\n".join([f"text {self.first}", f"machines {self.machines}", *self.events])


class Past:
    """What has happened so far: it tells what is possible now."""

    def __init__(self, first, machines):
        self.machines = machines
        self.texts = [first]
        self.acts = []
        # The edition that a machine holds; one that is not in here has not fetched yet.
        self.fetched = {}
        self.messages = 0

    def allows(self, act):
        """Whether what an event says is possible now."""
        word, thing, rows = act
        if word == "edit":
            return all([elder is None or elder < len(self.texts[-1]) for _, elder in thing.rows])
        if word == "hear":
            return thing < self.messages
        if thing >= self.machines:
            return False
        held = self.texts[self.fetched.get(thing, 0)]
        return all([row < len(held) for row in rows])

    def go(self, act):
        """This happens, which is possible now."""
        word, thing, _ = act
        if word == "edit":
            self.texts.append(thing)
        elif word == "fetch":
            self.fetched[thing] = len(self.texts) - 1
        elif word == "send":
            self.messages += 1
        self.acts.append(act)


def _is_first(value):
    return isinstance(value, Edition) and all([elder is None for _, elder in value.rows])


def _are_machines(value):
    return is_number(value) and value > 0


def _read_first(line):
    """The first text of a line, or None if it has none."""
    word, _, rest = line.partition(" ")
    if word != "text":
        return None
    try:
        first = Edition.read(rest)
    except InvalidText:
        return None
    return first if _is_first(first) else None


def _read_machines(line):
    """The number of machines of a line, or None if it has none."""
    word, _, rest = line.partition(" ")
    if word != "machines" or not is_decimal(rest) or rest == "0":
        return None
    return int(rest)
