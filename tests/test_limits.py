"""[3]: things as large as they can be are dealt with within a few seconds."""

import random
import time
import unittest

from ledmarks.deciding import faults, fewest, happens, lists, story
from ledmarks.papers import paper, paper_holds
from ledmarks.rows import Run
from ledmarks.runs import lacking, play
from ledmarks.stories import Story
from ledmarks.tools import Tool
from models import attributes, some_story, some_tool, wanted_attributes
from things import FAULTS

SECONDS = 4


def large_tools():
    for seed in range(12):
        one = some_tool(random.Random(seed), 5, 16, 0.1)
        yield Tool(one.marks, one.told, one.parts, one.clears, [*one.rows, *[Run("none", "none")] * 16][:16])


def large_stories():
    """Stories with about 40 events and editions of 8 rows: any ones, and those with most messages, runs or edits."""
    for seed in range(6):
        one = some_story(random.Random(seed), 60, 4, 8)
        yield one.upto(40)
    first = Story.read("text a b c d e f g h\nmachines 4")
    rows = "0 1 2 3 4 5 6 7"
    edit = "edit b:0 a:1 c:2 x:3 e:4 d:5 g:7 y:6"
    yield first.more([f"run 0 {rows}", *[f"send {at % 4}" for at in range(38)], "hear 0"])
    yield first.more([event for at in range(10) for event in (f"run {at % 4} {rows}", f"send {at % 4}", edit, f"hear {at}")])
    yield first.more([edit, f"run 0 {rows}", "send 0", "hear 0"] * 10)
    yield first.more([edit] * 38 + ["send 0", "hear 0"])


class TestLimits(unittest.TestCase):
    def quick(self, call, *arguments):
        began = time.monotonic()
        told = call(*arguments)
        self.assertLess(time.monotonic() - began, SECONDS, (call, *[str(argument) for argument in arguments]))
        return told

    def test_stories(self):
        for one in large_stories():
            self.assertGreaterEqual(len(one), 38)
            text = self.quick(str, one)
            self.assertEqual(self.quick(Story.read, text), one)
            more = self.quick(one.more, ["send 0", "edit a"])
            self.assertEqual(len(self.quick(more.upto, len(one))), len(one))

    def test_playing(self):
        for tool in list(large_tools())[:5]:
            for one in large_stories():
                self.quick(play, tool, one)
                self.quick(lacking, tool, one, 0)

    def test_as_the_document_says_it(self):
        tools = list(large_tools())
        for at, one in enumerate(large_stories()):
            self.assertEqual(attributes(play(tools[at], one)), wanted_attributes(tools[at], one))

    def test_deciding(self):
        for tool in large_tools():
            self.quick(faults, tool)
            pairs = [(mark, known) for mark in tool.marks for known in (False, True)]
            for fault in FAULTS:
                self.assertIs(self.quick(happens, tool, fault), self.quick(fewest, tool, fault) is not None)
                told = self.quick(story, tool, fault)
                self.assertIs(told is None, self.quick(paper, tool, fault) is not None)
                self.assertIs(self.quick(paper_holds, tool, fault, lists(tool)), told is None)
                self.quick(paper_holds, tool, fault, (tuple(pairs * 3), tuple(pairs * 3)))
                if told is not None:
                    self.quick(play, tool, told)

    def test_a_paper_that_holds_and_is_long(self):
        tool = Tool(["a", "b", "c", "d", "e"], ["b", "c", "d", "e"], ["own"], False, [Run("a", "b")] * 16)
        for fault in ("fallen", "order", "twice"):
            found = paper(tool, fault)
            if found is not None:
                self.assertTrue(self.quick(paper_holds, tool, fault, (found[0] * 10, found[1] * 10)))
        self.assertTrue(self.quick(paper_holds, tool, "order", tuple(part * 10 for part in lists(tool))))


if __name__ == "__main__":
    unittest.main()
