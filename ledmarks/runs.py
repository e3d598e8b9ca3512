"""Runs: what becomes of all books while a story happens to a tool, and which faults are met."""

from ledmarks.books import arriving, blank_book, book_of, keeps_frame, led_book
from ledmarks.steps import order_matters, second_matters


class Played:
    """A story that happened to a tool: the head's marks, all books, the faults that were met."""

    def __init__(self, tool, course):
        self.marks = course.head[1]
        self.known = course.head[2]
        self.told = tuple([row for row, mark in enumerate(self.marks) if mark in tool.told])
        self.books = tuple(course.held)
        self.sent = tuple(course.sent)
        self.now = course.now
        self.met = tuple(sorted(course.met))


class Course:
    """A story as far as it has happened to a tool."""

    def __init__(self, tool, story):
        self._tool = tool
        self._story = story
        self.head = blank_book(tool, story, 0)
        self.held = [self.head] * story.machines
        self.sent = []
        # What comes of each message to the rows of the head, if it is heard now.
        self.coming = []
        self.runs = {}
        # At the beginning no row is told or known, and there is no message: no fault is met.
        self.now = ()
        self.met = {}

    def go(self, act):
        """What an event says happens, and the faults are judged behind it."""
        word, thing, rows = act
        ahead = self.head
        if word == "edit":
            self._edit()
        elif word == "fetch":
            self.held[thing] = led_book(self._tool, self._story, self.held[thing], self.head[0])
        elif word == "run":
            self._run(thing, rows)
        elif word == "send":
            self._send(thing)
        else:
            self._hear(thing)
        self._judge(ahead)

    def _edit(self):
        newest = self.head[0] + 1
        self.head = led_book(self._tool, self._story, self.head, newest)
        self.coming = [arriving(self._tool, self._story, book, newest) for book in self.sent]

    def _run(self, machine, rows):
        edition, marks, known = self.held[machine]
        pairs = list(zip(marks, known))
        for row in rows:
            pairs[row] = (self._tool.ran(marks[row]), True)
            self.runs[(edition, row)] = True
        self.held[machine] = book_of(edition, pairs)

    def _send(self, machine):
        book = self.held[machine]
        self.sent.append(book)
        self.coming.append(arriving(self._tool, self._story, book, self.head[0]))
        if self._tool.clears:
            self.held[machine] = blank_book(self._tool, self._story, book[0])

    def _hear(self, message):
        edition, marks, known = self.head
        pairs = list(zip(marks, known))
        for row, came in enumerate(self.coming[message]):
            if came is not None:
                pairs[row] = (self._tool.joined(marks[row], came[0]), known[row] or came[1])
        self.head = book_of(edition, pairs)

    def _judge(self, ahead):
        rows = range(len(self.head[1]))
        self.now = tuple(sorted([(fault, row) for row in rows for fault in self._faults(row, ahead)]))
        for fault, _ in self.now:
            self.met[fault] = True

    def _faults(self, row, ahead):
        """The faults that are met at a row of the head; `ahead` is the head's book just ahead of the event."""
        _, marks, known = self.head
        told = marks[row] in self._tool.told
        came = self._came(row)
        judged = {
            "fallen": not told and self._was_told(row, ahead),
            "false": told and not self._was_run(row),
            "missed": known[row] and not told,
            "order": any([order_matters(self._tool, marks[row], one, other) for one in came for other in came]),
            "twice": any([second_matters(self._tool, marks[row], mark) for mark in came]),
        }
        return [fault for fault in judged if judged[fault]]

    def _was_told(self, row, ahead):
        edition, marks, _ = ahead
        if not keeps_frame(self._tool, self._story, self.head[0], row, edition):
            return False
        return marks[self._story.elder(self.head[0], row, edition)] in self._tool.told

    def _was_run(self, row):
        """Whether there was a run of the row with a frame that keeps with the one that it has now."""
        newest = self.head[0]
        for edition in range(newest + 1):
            run = (edition, self._story.elder(newest, row, edition))
            if run in self.runs and keeps_frame(self._tool, self._story, newest, row, edition):
                return True
        return False

    def _came(self, row):
        """The marks that the messages bring to a row, if they are heard now; each one once."""
        return sorted(set([pairs[row][0] for pairs in self.coming if pairs[row] is not None]))


def play(tool, story):
    """What becomes of all books, and which faults are met, when the story happens to the tool."""
    course = Course(tool, story)
    for act in story.acts:
        course.go(act)
    return Played(tool, course)


def lacking(tool, story, base):
    """The rows of the newest edition that were changed since an edition, and are not told as run."""
    newest = len(story.editions) - 1
    told = play(tool, story).told
    rows = range(len(story.editions[newest]))
    return tuple([row for row in rows if row not in told and not keeps_frame(tool, story, newest, row, base)])
