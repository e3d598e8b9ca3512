"""[19]: tools beside each other."""

import random
import unittest

from ledmarks.comparing import alike, merged, parting, twins
from ledmarks.runs import play
from ledmarks.stories import Story
from ledmarks.tools import Tool
from models import (World, another_tool, full_tool, some_story, some_tool, split_tool, wanted_parting,
                    wanted_twins)
from things import LINES, hearings, last, near, plain, third


def tool(*rows, marks="none run old", told="run old", parts="own", send="keep"):
    return Tool.read("\n".join([f"marks {marks}", f"told {told}".strip(), f"parts {parts}", f"send {send}", *rows]))


def told_rows(one, story):
    """The rows that are told, as the slow telling has it."""
    world = World(one, story)
    return [row for row, thing in enumerate(world.texts[-1]) if world.told(world.head[1][thing])]


def any_tool(dice, most):
    """Any tool, perhaps with marks that are one."""
    if most > 2 and dice.random() < 0.4:
        return split_tool(dice, any_tool(dice, most - 1))
    return dice.choice([some_tool, full_tool])(dice, dice.randint(2, most))


class ComparingCase(unittest.TestCase):
    def assert_parting(self, p, q, many):
        """The tools part with so many hearings, as the story shows that is told; or not at all."""
        for one, other in ((p, q), (q, p)):
            self.assertIs(alike(one, other), many is None, (str(one), str(other)))
            story = parting(one, other)
            if many is None:
                self.assertIsNone(story, (str(one), str(other)))
                continue
            self.assertIsInstance(story, Story)
            self.assertEqual(hearings(story), many, (str(one), str(other), str(story)))
            self.assertNotEqual(told_rows(one, story), told_rows(other, story), (str(one), str(other), str(story)))
            self.assertNotEqual(play(one, story).told, play(other, story).told)
            self.assertEqual(Story.read(str(story)), story)


class TestAlike(ComparingCase):
    def test_the_examples(self):
        self.assertEqual(twins(third()), (("none",), ("run", "old")))
        self.assertEqual(len(merged(third()).marks), 2)
        self.assert_parting(third(), plain(), None)
        self.assert_parting(plain(), last(), 2)

    def test_a_tool_and_itself(self):
        for one in (plain(), near(), last(), third(), tool()):
            self.assert_parting(one, one, None)
            self.assert_parting(one, Tool.read(str(one)), None)

    def test_the_promises_mean_nothing(self):
        self.assert_parting(plain(), near(), None)
        for parts in ("above own", "below own", "above below own"):
            self.assert_parting(last(), Tool.read(str(last()).replace("parts own", "parts " + parts)), None)

    def test_other_names_and_numbers_of_marks(self):
        renamed = tool("run any to y", "lead own y to y", "join any y to y", marks="x y", told="y", send="clear")
        self.assert_parting(plain(), renamed, None)
        self.assert_parting(plain(), Tool.read(str(plain()).replace("none run\n", "none run a b c\n")), None)
        # The blank of the one is told by the other.
        p = tool("run any to b", "lead own b to b", "join any b to b", marks="a b", told="b")
        q = tool("run any to a", "lead own a to a", "join any a to a", marks="b a", told="a")
        self.assert_parting(p, q, None)
        self.assert_parting(p, tool("run any to a", "lead own a to a", "join any a to a", marks="b a", told=""), 1)

    def test_nothing_is_ever_told(self):
        never = tool("run any to run", "join any any to came", told="")
        self.assert_parting(never, tool(), None)
        self.assert_parting(never, tool(told=""), None)
        self.assert_parting(tool("run any to run", "lead always any to run"), tool(told=""), None)
        self.assert_parting(tool("join none none to run"), tool(told=""), 1)
        self.assert_parting(tool(marks="none", told=""), tool(), None)

    def test_what_is_never_reached(self):
        more = ["join old any to none", "join any old to none", "lead always old to run", "run old to none"]
        for rows in ([*LINES[4:], *more], [*more, *LINES[4:]]):
            self.assert_parting(plain(), tool(*rows, send="clear"), None)
        self.assert_parting(plain(), Tool.read("\n".join([*LINES, "join run none to none"])), 2)

    def test_runs_and_leads(self):
        self.assert_parting(plain(), Tool.read("\n".join([*LINES[:4], "run none to none", *LINES[4:]])), 1)
        self.assert_parting(plain(), Tool.read("\n".join(LINES).replace("lead own", "lead always")), 1)
        for part in ("above", "below"):
            self.assert_parting(plain(), Tool.read("\n".join(LINES).replace("lead own", f"lead own and {part}")), 1)
            self.assert_parting(plain(), Tool.read("\n".join(LINES).replace("lead own", f"lead own and not {part}")), 1)
        every = [f"lead {a}above and {b}below any to run" for a in ("", "not ") for b in ("", "not ")]
        self.assert_parting(tool("run any to run", "join any any to came", "lead always any to run"),
                            tool("run any to run", "join any any to came", *every), None)
        for at in range(4):
            self.assert_parting(tool("run any to run", "join any any to came", "lead always any to run"),
                                tool("run any to run", "join any any to came", *every[:at], *every[at + 1:]), 1)

    def test_only_by_a_message_that_is_not_led(self):
        # Led, each mark is lost: the machine must hold the newest edition.
        rows = ["run any to run", "join any any to came"]
        self.assert_parting(tool(*rows), tool(*rows, told="old"), 1)
        self.assert_parting(tool(*rows), tool("join any any to came"), 1)

    def test_joins(self):
        rows = ["run any to run", "lead own any to run"]
        self.assert_parting(tool(*rows, "join any any to came"), tool(*rows, "join any run to run"), 2)
        self.assert_parting(tool(*rows, "join any any to came"), tool(*rows, "join any run to came"), 2)
        self.assert_parting(tool(*rows, "join any run to run"), tool(*rows, "join none any to came"), None)
        self.assert_parting(tool(*rows, "join any any to here"), tool(*rows), None)
        more = ["join run run to old", "join any run to run"]
        self.assert_parting(tool(*rows, *more), tool(*rows, *more[1:]), None)
        self.assert_parting(tool(*rows, *more, told="run"), tool(*rows, *more[1:], told="run"), 2)

    def test_many_hearings(self):
        climb = ["run any to a", "lead own a to a", "join none a to a", "join a a to b", "join b a to c",
                 "join c a to d"]
        one = tool(*climb, marks="none a b c d", told="d")
        self.assert_parting(one, tool(*climb, marks="none a b c d", told=""), 4)
        self.assert_parting(one, tool(*climb[:5], marks="none a b c d", told="d"), 4)
        self.assert_parting(one, tool(*climb, "lead own d to d", marks="none a b c d", told="d"), 4)
        self.assert_parting(one, tool(*climb, marks="none a b c d", told="c d"), 3)

    def test_marks_of_the_head_are_led_too(self):
        rows = ["run any to run", "join none any to came", "join old any to here"]
        p = tool(*rows, "lead own run to old", told="old")
        self.assert_parting(p, tool(*rows, "lead own run to old", "lead not own run to old", told="old"), 1)
        self.assert_parting(p, tool(*rows, "lead own run to old", "lead not own old to old", told="old"), 1)

    def test_only_one_clears(self):
        # What is run again behind a sending is another mark, if the machine does not clear.
        rows = ["run none to run", "run run to old", "join none any to came", "lead own any to old"]
        clear, keep = tool(*rows, send="clear", told="old"), tool(*rows, send="keep", told="old")
        self.assert_parting(clear, keep, 1)
        # Without a further run: it was sent once, and is sent again.
        rows = ["run any to run", "join none any to came"]
        self.assert_parting(tool(*rows, send="clear"), tool(*rows, send="keep"), 1)
        # The head does not take a mark that comes for the second time, but it takes that of a run ahead of a fetch.
        self.assert_parting(plain(), Tool.read(str(plain()).replace("clear", "keep")), 1)
        # Two runs, a sending between them: by the one tool they count together.
        rows = ["run none to a", "run a to b", "run b to c", "lead own any to old", "join none c to c"]
        marks = "none a b c old"
        self.assert_parting(tool(*rows, marks=marks, told="c", send="clear"),
                            tool(*rows, marks=marks, told="c", send="keep"), 1)

    def test_a_machine_begins_anew_only_where_both_clear(self):
        marks = "none a b c x"
        p = ["run none to a", "run a to b", "join none a to a", "join a b to b"]
        q = ["run none to a", "run a to b", "run b to c", "join none a to a", "join a b to b", "join a c to x"]
        for one in ("keep", "clear"):
            for other in ("keep", "clear"):
                self.assert_parting(tool(*p, marks=marks, told="b", send=one),
                                    tool(*q, marks=marks, told="x", send=other), 2)

    def test_clearing_means_nothing_where_nothing_is_sent_again(self):
        self.assert_parting(tool(send="clear"), tool(send="keep"), None)
        rows = ["run any to run", "join any any to here"]
        self.assert_parting(tool(*rows, send="clear"), tool(*rows, send="keep"), None)

    def test_any_tools(self):
        seen = {}
        for seed in range(300):
            dice = random.Random(seed)
            make = dice.choice([some_tool, full_tool])
            p = make(dice, dice.randint(2, 4))
            q = another_tool(dice, p) if dice.random() < 0.8 else make(dice, dice.randint(2, 4))
            many = wanted_parting(p, q)
            self.assert_parting(p, q, many)
            seen[many] = seen.get(many, 0) + 1
        self.assertGreater(min(seen[None], seen[1], seen[2] * 10), 40)

    def test_no_story_does_better(self):
        for seed in range(200):
            dice = random.Random(seed)
            p = some_tool(dice, 3)
            q = another_tool(dice, p)
            for _ in range(3):
                story = some_story(dice, 14, 2)
                if play(p, story).told != play(q, story).told:
                    self.assertFalse(alike(p, q))
                    self.assertLessEqual(hearings(parting(p, q)), hearings(story))

    def test_by_name(self):
        self.assertIs(alike(q=plain(), p=third()), True)
        self.assertEqual(parting(q=last(), p=plain()), parting(plain(), last()))

    def test_the_story_can_be_passed_on(self):
        story = parting(plain(), last())
        self.assertEqual(len(story.more(["send 0", "edit -"])), len(story) + 2)
        self.assertEqual(play(last(), story.upto(len(story) - 1)).told, play(plain(), story.upto(len(story) - 1)).told)


class TestTwins(ComparingCase):
    def assert_twins(self, one, *parts):
        wanted = tuple(tuple(part.split(" ")) for part in parts)
        self.assertEqual(twins(one), wanted)
        self.assertEqual(wanted_twins(one), wanted)

    def test_no_rows(self):
        self.assert_twins(tool(), "none", "run old")
        self.assert_twins(tool(told=""), "none run old")
        self.assert_twins(tool(told="old"), "none run", "old")
        self.assert_twins(tool(marks="none", told=""), "none")

    def test_each_way_tells_marks_apart(self):
        marks = "none a b"
        self.assert_twins(tool("run a to none", marks=marks, told="a b"), "none", "a", "b")
        self.assert_twins(tool("run any to none", marks=marks, told="a b"), "none", "a b")
        for tests in ("own", "above and below and own", "not above and not below and not own", "above and not own"):
            self.assert_twins(tool(f"lead {tests} a to a", marks=marks, told="a b"), "none", "a", "b")
            self.assert_twins(tool(f"lead {tests} any to a", marks=marks, told="a b"), "none", "a b")
        self.assert_twins(tool("join a none to none", marks=marks, told="a b"), "none", "a", "b")
        self.assert_twins(tool("join none a to a", marks=marks, told="a b"), "none", "a", "b")
        self.assert_twins(tool("join any a to b", "join any b to a", marks=marks, told="a b"), "none", "a b")
        self.assert_twins(tool("join any any to came", marks=marks, told="a b"), "none", "a b")

    def test_marks_are_told_apart_step_by_step(self):
        rows = ["run none to a", "run a to b", "run b to c", "run c to d"]
        self.assert_twins(tool(*rows, marks="none a b c d", told="d"), "none", "a", "b", "c", "d")
        self.assert_twins(tool(*rows, "run d to c", marks="none a b c d", told="c d"), "none", "a", "b", "c d")

    def test_marks_that_are_never_reached_count(self):
        self.assert_twins(tool("run run to old", told="old"), "none", "run", "old")
        self.assert_twins(tool("join any old to run", told="run"), "none", "run", "old")

    def test_in_the_order_of_the_marks(self):
        self.assert_twins(tool(marks="z y x w", told="x z".replace("z", "w")), "z y", "x w")
        self.assert_twins(tool(marks="z x y w", told="x w"), "z y", "x w")
        self.assert_twins(tool(marks="z w y x", told="x w"), "z y", "w x")

    def test_form(self):
        for one in (plain(), third(), tool()):
            self.assertEqual({part.__class__ for part in (twins(one), *twins(tool=one))}, {tuple})

    def test_any_tools(self):
        seen = {}
        for seed in range(300):
            dice = random.Random(seed)
            one = any_tool(dice, 5)
            self.assertEqual(twins(one), wanted_twins(one), str(one))
            many = len(one.marks) - len(twins(one))
            seen[many] = seen.get(many, 0) + 1
        self.assertGreater(min(seen[0], seen[1], seen[2]), 15)


class TestMerged(ComparingCase):
    def assert_merged(self, one, *lines):
        self.assertEqual(str(merged(one)), "\n".join(lines))
        self.assertTrue(alike(one, merged(one)))

    def test_the_example(self):
        self.assert_merged(third(), "marks none run", "told run", "parts own", "send clear", "run any to run",
                           "lead own any to run", "join none any to came")

    def test_nothing_to_merge(self):
        for one in (plain(), near(), last(), tool("run run to none")):
            self.assertEqual(merged(one), one)

    def test_each_place_of_a_row(self):
        one = tool("run a to b", "run b to b", "lead own any to b", "lead own and above a to b",
                   "lead not above and own b to none", "join b a to a", "join any b to here", "join none a to none",
                   "join b any to here", "join b a to came", marks="none a b", told="a b", parts="above own")
        self.assertEqual(twins(one), (("none",), ("a", "b")))
        self.assert_merged(one, "marks none a", "told a", "parts above own", "send keep", "run a to a", "run a to a",
                           "lead own any to a", "lead own and above a to a", "lead not above and own a to none",
                           "join a a to a", "join any a to here", "join none a to none", "join a any to here",
                           "join a a to came")

    def test_leads_of_what_is_the_blank_are_left_out(self):
        one = tool("run any to b", "lead always a to none", "lead own b to a", "lead always any to a",
                   "join any b to a", marks="none a b", told="")
        self.assertEqual(twins(one), (("none", "a", "b"),))
        self.assert_merged(one, "marks none", "told", "parts own", "send keep", "run any to none",
                           "lead always any to none", "join any none to none")

    def test_promise_and_clearing_stay(self):
        one = tool(parts="above below own", send="clear")
        self.assert_merged(one, "marks none run", "told run", "parts above below own", "send clear")

    def test_the_tool_itself_stays(self):
        one = third()
        text = str(one)
        merged(tool=one)
        self.assertEqual(str(one), text)

    def test_any_tools(self):
        many = 0
        for seed in range(300):
            dice = random.Random(seed)
            one = any_tool(dice, 4)
            less = merged(one)
            self.assertIsNone(wanted_parting(one, less), str(one))
            self.assertTrue(alike(one, less))
            self.assertEqual(twins(less), tuple((mark,) for mark in less.marks), str(one))
            self.assertEqual(less.marks, tuple(part[0] for part in twins(one)))
            self.assertEqual((less.parts, less.clears), (one.parts, one.clears))
            many += less != one
            for _ in range(2):
                story = some_story(dice, 12, 2)
                self.assertEqual(play(one, story).told, play(less, story).told)
        self.assertGreater(many, 80)


if __name__ == "__main__":
    unittest.main()
