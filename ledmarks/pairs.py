"""What becomes of a row's pair: of a mark and whether it is known by `OneTool`, of two marks by `TwoTools`.

Both tell the same things, so that the steps and ways of rows are the same for the one and the other.
"""


class OneTool:
    """A row has a mark of the tool, and is known or not."""

    def __init__(self, tool):
        self._tool = tool
        self.start = (tool.blank, False)
        # Whether each row begins anew on a machine that has sent.
        self.clears = tool.clears

    def ran(self, pair):
        return (self._tool.ran(pair[0]), True)

    def led(self, pair, same):
        mark, known = pair
        return (self._tool.led(mark, same), known and self._tool.keeps(same))

    def joined(self, here, came):
        return (self._tool.joined(here[0], came[0]), here[1] or came[1])

    def left(self, pair):
        """What the machine has behind a sending."""
        return self.start if self.clears else pair


class TwoTools:
    """The same happens to two tools: a row has a mark of the one, and a mark of the other."""

    def __init__(self, p, q):
        self._p = p
        self._q = q
        self.start = (p.blank, q.blank)
        self.clears = p.clears and q.clears

    def ran(self, pair):
        return (self._p.ran(pair[0]), self._q.ran(pair[1]))

    def led(self, pair, same):
        return (self._p.led(pair[0], same), self._q.led(pair[1], same))

    def joined(self, here, came):
        return (self._p.joined(here[0], came[0]), self._q.joined(here[1], came[1]))

    def left(self, pair):
        """What the machine has behind a sending: perhaps only the one tool clears."""
        one, other = pair
        return (self._p.blank if self._p.clears else one, self._q.blank if self._q.clears else other)
