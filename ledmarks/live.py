"""Live things: stories that go on, and of which the last steps can be taken back."""

from ledmarks.errors import InvalidStory, Refused
from ledmarks.runs import play
from ledmarks.stories import Story
from ledmarks.words import is_sequence


class Live:
    """A story that goes on, and the tool to which it happens."""

    def __init__(self, tool, first, machines=1):
        # A moment is the tool, the story, and what is played; moments never change.
        self._now = _moment(tool, Story(first, machines))
        self._back = ()

    @property
    def story(self):
        """The story as far as it went."""
        return self._now[1]

    @property
    def played(self):
        """What became of the story."""
        return self._now[2]

    @property
    def tool(self):
        """The tool to which the story happens; where it is set, the same story happens to the new one."""
        return self._now[0]

    @tool.setter
    def tool(self, value):
        self.change(value)

    def do(self, event):
        """Does the event, and returns the rows that are told then."""
        tool, story, _ = self._now
        self._go(_moment(tool, story.more([event])))
        return self._now[2].told

    def several(self, events):
        """Does all of the events, or none of them; returns the rows that are told behind each."""
        tool, story, played = self._now
        if not is_sequence(events):
            raise Refused(0) from InvalidStory(len(story))
        told = []
        for at, event in enumerate(events):
            try:
                story = story.more([event])
            except InvalidStory as error:
                raise Refused(at) from error
            played = play(tool, story)
            told.append(played.told)
        self._go((tool, story, played))
        return tuple(told)

    def change(self, tool):
        """The same story happens to this tool."""
        self._go(_moment(tool, self._now[1]))

    def undo(self):
        """Takes back the last doing or change, and returns whether there was one."""
        if not self._back:
            return False
        self._now = self._back[-1]
        self._back = self._back[:-1]
        return True

    def trial(self):
        """A block behind which all is as it was when it was entered."""
        return Trial(self)

    def within(self, work):
        """Calls the work with the live thing in such a block, and returns what it returns."""
        with self.trial():
            return work(self)

    def _go(self, moment):
        self._back = (*self._back, self._now)
        self._now = moment

    def __len__(self):
        return len(self._back)


class Trial:
    """A block behind which a live thing is as it was when the block was entered."""

    def __init__(self, live):
        self._live = live
        self._now = None
        self._back = None

    def __enter__(self):
        self._now = self._live._now
        self._back = self._live._back
        return self._live

    def __exit__(self, kind, value, trace):
        live = self._live
        live._now = self._now
        live._back = self._back


def _moment(tool, story):
    return (tool, story, play(tool, story))
