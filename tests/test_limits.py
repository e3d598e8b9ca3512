"""[3]: things as large as they can be are dealt with within a few seconds."""

import random
import time
import unittest

from ledmarks.comparing import alike, merged, parting, twins
from ledmarks.deciding import faults, fewest, happens, lists, story
from ledmarks.desk import Desk
from ledmarks.keeping import least_parts, needless, repairs, swaps
from ledmarks.live import Live
from ledmarks.papers import paper, paper_holds
from ledmarks.rows import Run
from ledmarks.runs import lacking, play
from ledmarks.stories import Story
from ledmarks.tools import Tool
from models import (another_tool, attributes, full_tool, some_story, some_tool, wanted_attributes, wanted_happening,
                    wanted_parting, wanted_twins)
from things import FAULTS, hearings

SECONDS = 4


def with_rows(one, dice):
    """The tool with 16 rows: any of its own ones, or such as never change a thing."""
    rows = list(one.rows)
    while len(rows) > 16:
        rows.pop(dice.randrange(len(rows)))
    return Tool(one.marks, one.told, one.parts, one.clears, [*rows, *[Run("none", "none")] * (16 - len(rows))])


def large_tools(marks=5):
    for seed in range(12):
        dice = random.Random(seed)
        yield with_rows(some_tool(dice, marks, 16, 0.1), dice)
        yield with_rows(full_tool(dice, marks, 0.4), dice)


def large_stories():
    """Stories with about 40 events and editions of 8 rows: any ones, and those with most messages, runs or edits."""
    for seed in range(6):
        one = some_story(random.Random(seed), 60, 4, 8)
        yield one.upto(40)
    first = Story.read("text a b c d e f g h\nmachines 4")
    rows = "0 1 2 3 4 5 6 7"
    edit = "edit b:0 a:1 c:2 x:3 e:4 d:5 g:7 y:6"
    yield first.more([f"run 0 {rows}", *[f"send {at % 4}" for at in range(38)], "hear 0"])
    yield first.more([event for at in range(10) for event in (f"run {at % 4} {rows}", f"send {at % 4}", edit, f"hear {at}")])
    yield first.more([edit, f"run 0 {rows}", "send 0", "hear 0"] * 10)
    yield first.more([edit] * 38 + ["send 0", "hear 0"])


class LimitsCase(unittest.TestCase):
    def quick(self, call, *arguments):
        began = time.monotonic()
        told = call(*arguments)
        self.assertLess(time.monotonic() - began, SECONDS, (call, *[str(argument) for argument in arguments]))
        return told


class TestLimits(LimitsCase):
    def test_stories(self):
        for one in large_stories():
            self.assertGreaterEqual(len(one), 38)
            text = self.quick(str, one)
            self.assertEqual(self.quick(Story.read, text), one)
            more = self.quick(one.more, ["send 0", "edit a"])
            self.assertEqual(len(self.quick(more.upto, len(one))), len(one))

    def test_playing(self):
        for tool in list(large_tools())[:4]:
            for one in large_stories():
                self.quick(play, tool, one)
                self.quick(lacking, tool, one, 0)

    def test_as_the_document_says_it(self):
        tools = list(large_tools())
        for at, one in enumerate(large_stories()):
            self.assertEqual(attributes(play(tools[at], one)), wanted_attributes(tools[at], one))

    def test_deciding(self):
        for tool in large_tools():
            self.quick(faults, tool)
            pairs = [(mark, known) for mark in tool.marks for known in (False, True)]
            for fault in FAULTS:
                self.assertIs(self.quick(happens, tool, fault), self.quick(fewest, tool, fault) is not None)
                told = self.quick(story, tool, fault)
                self.assertIs(told is None, self.quick(paper, tool, fault) is not None)
                self.assertIs(self.quick(paper_holds, tool, fault, lists(tool)), told is None)
                self.quick(paper_holds, tool, fault, (tuple(pairs * 3), tuple(pairs * 3)))
                if told is not None:
                    self.quick(play, tool, told)

    def test_a_paper_that_holds_and_is_long(self):
        tool = Tool(["a", "b", "c", "d", "e"], ["b", "c", "d", "e"], ["own"], False, [Run("a", "b")] * 16)
        for fault in ("fallen", "order", "twice"):
            found = paper(tool, fault)
            if found is not None:
                self.assertTrue(self.quick(paper_holds, tool, fault, (found[0] * 10, found[1] * 10)))
        self.assertTrue(self.quick(paper_holds, tool, "order", tuple(part * 10 for part in lists(tool))))


class TestFourMarks(LimitsCase):
    def test_keeping(self):
        for tool in large_tools(4):
            self.assertEqual((len(tool), len(tool.marks)), (16, 4))
            now = faults(tool)
            found = self.quick(needless, tool, FAULTS)
            self.assertEqual(found, tuple(at for at in range(16) if faults(tool.without(at)) == now))
            self.assertEqual(self.quick(repairs, tool, FAULTS), tuple(at for at in range(16) if not faults(tool.without(at))))
            for wanted in (FAULTS, ["false"], ["fallen", "order"], ["twice", "missed"]):
                parts = self.quick(least_parts, tool, wanted)
                if parts is not None:
                    self.assertEqual(wanted_happening(tool.heeding(parts), wanted), set())
            self.quick(swaps, tool)

    def test_comparing(self):
        seen = {}
        for seed, tool in enumerate(large_tools(4)):
            dice = random.Random(seed)
            for other in (another_tool(dice, tool), with_rows(full_tool(dice, 4), dice), merged(tool)):
                many = wanted_parting(tool, other)
                self.assertIs(self.quick(alike, tool, other), many is None)
                told = self.quick(parting, tool, other)
                seen[many] = seen.get(many, 0) + 1
                if told is not None:
                    self.assertEqual(hearings(told), many)
                    self.passed_on(tool, other, told)
            self.assertEqual(self.quick(twins, tool), wanted_twins(tool))
        self.assertGreater(min(seen[None], seen[1]), 10)

    def passed_on(self, tool, other, told):
        """The story that was returned, passed to all that takes stories."""
        self.assertNotEqual(self.quick(play, tool, told).told, self.quick(play, other, told).told)
        self.quick(lacking, tool, told, len(told.editions) - 1)
        self.assertEqual(self.quick(Story.read, str(told)), told)
        thing = Live(tool, told.first, told.machines)
        self.assertEqual(self.quick(thing.several, told.events)[-1], play(tool, told).told)
        self.quick(thing.change, other)
        self.assertEqual(thing.played.told, play(other, told).told)


class TestLong(LimitsCase):
    def test_live(self):
        tools = list(large_tools())
        for at, one in enumerate(large_stories()):
            thing = Live(tools[at], one.first, one.machines)
            for event in one.events:
                self.quick(thing.do, event)
            self.assertEqual(attributes(thing.played), attributes(play(tools[at], one)))
            with thing.trial():
                self.assertEqual(len(self.quick(thing.several, ["send 0", "edit a", "send 0"])), 3)
            other = Live(tools[at], one.first, one.machines)
            self.assertEqual(self.quick(other.several, one.events)[-1], thing.played.told)
            self.quick(other.change, tools[at + 1])
            for _ in one.events:
                self.assertTrue(thing.undo())
            self.assertEqual((len(thing), len(thing.story)), (0, 0))

    def test_desk(self):
        one = Desk()
        for tool, told in zip(large_tools(), large_stories()):
            self.assertEqual(self.quick(one.say, "tool " + str(tool).replace("\n", " ; ")), "16")
            self.quick(one.say, "faults")
            for fault in FAULTS:
                self.quick(one.say, "fewest " + fault)
            self.quick(one.say, f"begin {told.machines} {told.first}")
            for event in told.events:
                self.quick(one.say, "do " + event)
            self.quick(one.say, "tool " + str(tool).replace("\n", " ; "))
            self.assertEqual(len(one.live), len(told) + 1)


if __name__ == "__main__":
    unittest.main()
