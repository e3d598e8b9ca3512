"""Stories told from steps of a row at the head, and from what comes by messages that are not heard."""

from ledmarks.editions import Edition
from ledmarks.stories import Story
from ledmarks.words import LETTERS, is_name


class Frames:
    """Frames that are the same where they must be, and of new names elsewhere."""

    def __init__(self):
        self.named = 0
        self.ahead = {}

    def new(self):
        return (self._name(), self._name(), self._name())

    def like(self, frame, same):
        """A new frame that is the same as this one in just these places."""
        return tuple([content if alike else self._name() for content, alike in zip(frame, same)])

    def past(self, frame, same):
        """A frame as `like`, for an elder text from which a book is led; the same one again for the same places."""
        if (frame, same) not in self.ahead:
            self.ahead[(frame, same)] = self.like(frame, same)
        return self.ahead[(frame, same)]

    def _name(self):
        name = _word(self.named)
        self.named += 1
        return name if is_name(name) else self._name()


class Errand:
    """What a machine does for a message: the texts that it holds, and the words `run` and `send` for each."""

    def __init__(self, stays, late):
        self.stays = stays
        # Whether the last stay is in the very edition in which the message comes.
        self.late = late
        self.machine = None
        self.number = None


class Teller:
    """The events that were told so far."""

    def __init__(self, clears):
        self.clears = clears
        self.first = None
        self.events = []
        self.text = None
        self.newest = 0
        self.held = []
        self.free = []
        self.messages = 0

    def edit(self, frame):
        """The row stands in the middle of each text; the rows beside it are always new."""
        above, own, below = frame
        if self.first is None:
            self.first = frame
        else:
            self.events.append(f"edit {above} {own}:1 {below}")
            self.newest += 1
        self.text = frame

    def prepare(self, errand):
        """The errand is done as far as it can be ahead of the head's own texts."""
        early = errand.stays[:-1] if errand.late else errand.stays
        for at, (frame, words) in enumerate(early):
            # What is led must be led to a newer text, though its rows may all be the same.
            if at > 0 or frame != self.text:
                self.edit(frame)
            self._stay(errand, words)
        if not errand.late:
            self._end(errand)

    def deliver(self, errand):
        """The rest of the errand is done, so that its message is sent."""
        if errand.number is None:
            self._stay(errand, errand.stays[-1][1])
            self._end(errand)

    def hear(self, errand):
        self.deliver(errand)
        self.events.append(f"hear {errand.number}")

    def whole(self):
        rows = [(content, None) for content in self.first]
        # Whatever a story is told of needs a message, so there is a machine.
        return Story(Edition(rows), len(self.held), self.events)

    def _stay(self, errand, words):
        if errand.machine is None:
            errand.machine = self._blank_machine()
        if self.held[errand.machine] != self.newest:
            self.events.append(f"fetch {errand.machine}")
            self.held[errand.machine] = self.newest
        for word in words:
            if word == "run":
                self.events.append(f"run {errand.machine} 1")
            else:
                self._send(errand.machine)

    def _blank_machine(self):
        """A machine on which the row is as at the beginning."""
        if self.free:
            return self.free.pop()
        self.held.append(0)
        return len(self.held) - 1

    def _send(self, machine):
        self.events.append(f"send {machine}")
        self.messages += 1

    def _end(self, errand):
        errand.number = self.messages
        self._send(errand.machine)
        if self.clears or all(["run" not in words for _, words in errand.stays]):
            self.free.append(errand.machine)


class Plan:
    """What the head does in each of its texts, and the errands for that."""

    def __init__(self, came):
        self.came = came
        self.frames = Frames()
        # For each text its frame, and the errands whose messages are heard then, or lie there at the end.
        self.texts = [(self.frames.new(), [])]
        self.errands = {}

    def add_step(self, step):
        word, thing = step
        frame, heard = self.texts[-1]
        if word == "edit":
            self.texts.append((self.frames.like(frame, thing), []))
        else:
            heard.append(self.errand(thing))

    def errand(self, pair):
        """The errand for what comes to the head in its newest text; a message can be heard again there."""
        key = (len(self.texts), pair)
        if key not in self.errands:
            _, steps, same = self.came[pair]
            frame = self.texts[-1][0]
            last = frame if same is None else self.frames.past(frame, same)
            self.errands[key] = Errand(_stays(self.frames, steps, last), same is None)
        return self.errands[key]


def told_story(clears, came, steps, lying):
    """The story in which the head goes these steps, and what comes by messages that are not heard lies there.

    `clears` is whether each row begins anew on a machine that has sent; `came` are the ways of what can come.
    """
    plan = Plan(came)
    for step in steps:
        plan.add_step(step)
    errands = [plan.errand(pair) for pair in lying]
    teller = Teller(clears)
    for errand in list(plan.errands.values()):
        teller.prepare(errand)
    for frame, heard in plan.texts:
        teller.edit(frame)
        for errand in heard:
            teller.hear(errand)
    for errand in errands:
        teller.deliver(errand)
    return teller.whole()


def _stays(frames, steps, last):
    """The frames that a machine holds, up to the last one, and the words for what it does in each."""
    stays = []
    frame, words = last, []
    for word, same in reversed(list(steps)):
        if word == "fetch":
            stays.append((frame, words[::-1]))
            frame, words = frames.past(frame, same), []
        else:
            words.append(word)
    stays.append((frame, words[::-1]))
    return stays[::-1]


def _word(number):
    """The word with this number: all of one letter, then all of two, and so on."""
    text = ""
    number += 1
    while number > 0:
        number, at = divmod(number - 1, len(LETTERS))
        text = LETTERS[at] + text
    return text
