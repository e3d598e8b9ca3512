"""[20]: live things."""

import inspect
import random
import unittest

from ledmarks.editions import Edition
from ledmarks.errors import InvalidStory, Refused
from ledmarks.live import Live
from ledmarks.runs import Played, play
from ledmarks.stories import Story
from ledmarks.tools import Tool
from models import attributes, some_story, some_tool
from things import ANY, last, near, plain, story

EVENTS = ["run 0 0 1", "send 0", "hear 0", "edit a:0 x:1 c:2"]


def live(text="a b c", machines=1, tool=None):
    return Live(plain() if tool is None else tool, Edition.read(text), machines)


class LiveCase(unittest.TestCase):
    def assert_state(self, thing, tool, wanted, many):
        """The live thing has this tool and story, and so many steps can be taken back."""
        self.assertEqual((thing.tool, thing.story, len(thing)), (tool, wanted, many))
        self.assertEqual(attributes(thing.played), attributes(play(tool, wanted)))

    def assert_fails(self, error, at, call, *arguments):
        with self.assertRaises(error) as caught:
            call(*arguments)
        self.assertEqual(caught.exception.at, at, arguments)
        return caught.exception


class TestMaking(LiveCase):
    def test_the_beginning(self):
        self.assert_state(live(), plain(), story("a b c", 1), 0)
        self.assert_state(live("-", 4, near()), near(), story("-", 4), 0)
        self.assertEqual([live().story.__class__, live().played.__class__, live().tool.__class__], [Story, Played, Tool])

    def test_by_name_and_by_position(self):
        self.assert_state(Live(machines=3, first=Edition.read("a"), tool=last()), last(), story("a", 3), 0)
        self.assertEqual(inspect.signature(Live).parameters["machines"].default, 1)
        self.assertEqual(Live(plain(), Edition.read("a")).story.machines, 1)

    def test_wrong_stories(self):
        for value in ANY:
            if not isinstance(value, Edition):
                self.assert_fails(InvalidStory, 0, Live, plain(), value, 1)
            if value.__class__ is not int or value < 1:
                self.assert_fails(InvalidStory, 0, Live, plain(), Edition.read("a"), value)
        for text in ("a:0", "a b:1"):
            self.assert_fails(InvalidStory, 0, live, text)

    def test_not_iterable(self):
        thing = live()
        thing.do("send 0")
        for call in (iter, list, tuple, lambda one: [*one], lambda one: "send 0" in one, dict.fromkeys):
            with self.assertRaises(TypeError):
                call(thing)


class TestDo(LiveCase):
    def test_the_rows_that_are_told(self):
        thing = live()
        self.assertEqual([thing.do(event) for event in EVENTS], [(), (), (0, 1), (0,)])
        self.assert_state(thing, plain(), story("a b c", 1, *EVENTS), 4)
        self.assertEqual(thing.do(event="edit -"), ())

    def test_any_value(self):
        thing = live()
        for many, ahead in enumerate([None, *EVENTS]):
            if ahead is not None:
                thing.do(ahead)
            for value in [*ANY, "hear 1", "run 1", "run 0 3", "fetch 1", "send 00", "edit a:3", "undo"]:
                self.assert_fails(InvalidStory, many, thing.do, value)
            self.assert_state(thing, plain(), story("a b c", 1, *EVENTS[:many]), many)

    def test_elder_values_stay(self):
        thing = live()
        before, played = thing.story, thing.played
        thing.several(EVENTS)
        self.assertEqual((before, played.told, len(before)), (story("a b c", 1), (), 0))


class TestSeveral(LiveCase):
    def test_all(self):
        for events in (list(EVENTS), tuple(EVENTS)):
            thing = live()
            self.assertEqual(thing.several(events), ((), (), (0, 1), (0,)))
            self.assert_state(thing, plain(), story("a b c", 1, *EVENTS), 1)
            self.assertEqual(list(events), EVENTS)
            self.assertEqual(thing.several(events=["hear 0"]), ((0,),))
            self.assert_state(thing, plain(), story("a b c", 1, *EVENTS, "hear 0"), 2)

    def test_none_at_all(self):
        thing = live()
        for many, events in enumerate(([], (), [])):
            self.assertEqual(thing.several(events), ())
            self.assert_state(thing, plain(), story("a b c", 1), many + 1)

    def test_a_wrong_one(self):
        for many in range(3):
            thing = live()
            for event in EVENTS[:many]:
                thing.do(event)
            for at in range(len(EVENTS) - many + 1):
                for value in [*ANY, "hear 7", "run 1"]:
                    events = [*EVENTS[many:many + at], value, *EVENTS[many + at:], "x"]
                    error = self.assert_fails(Refused, at, thing.several, events)
                    self.assertIs(error.__cause__.__class__, InvalidStory)
                    self.assertEqual(error.__cause__.at, many + at)
            self.assert_state(thing, plain(), story("a b c", 1, *EVENTS[:many]), many)

    def test_no_sequence(self):
        for many in range(3):
            thing = live()
            for event in EVENTS[:many]:
                thing.do(event)
            for value in [*ANY, "send 0", {"send 0": 1}]:
                if not isinstance(value, (list, tuple)):
                    error = self.assert_fails(Refused, 0, thing.several, value)
                    self.assertEqual((error.__cause__.__class__, error.__cause__.at), (InvalidStory, many))
            self.assertEqual(len(thing), many)

    def test_any_sequence(self):
        for value in ANY:
            if isinstance(value, (list, tuple)) and len(value) > 0:
                self.assertEqual(self.assert_fails(Refused, 0, live().several, value).__cause__.at, 0)

    def test_a_list_that_is_changed_later(self):
        thing, events = live(), list(EVENTS)
        thing.several(events)
        events[0] = "x"
        events.append("y")
        self.assert_state(thing, plain(), story("a b c", 1, *EVENTS), 1)


class TestChange(LiveCase):
    def test_the_same_story_happens_to_the_new_tool(self):
        thing = live()
        thing.several([*EVENTS, "send 0"])
        whole = thing.story
        self.assertIsNone(thing.change(last()))
        self.assert_state(thing, last(), whole, 2)
        self.assertEqual(thing.do("hear 1"), ())
        self.assertEqual(thing.played.met, ("fallen", "missed", "order"))
        thing.tool = near()
        self.assert_state(thing, near(), whole.more(["hear 1"]), 4)
        thing.change(tool=plain())
        self.assertEqual(thing.played.told, (0,))

    def test_taken_back_also_to_an_equal_one(self):
        thing = live()
        one = thing.tool
        thing.tool = plain()
        self.assert_state(thing, plain(), story("a b c", 1), 1)
        thing.change(one)
        self.assertEqual(len(thing), 2)
        self.assertIs(thing.undo(), True)
        self.assertIs(thing.undo(), True)
        self.assertIs(thing.undo(), False)
        self.assert_state(thing, plain(), story("a b c", 1), 0)

    def test_only_the_tool_is_set(self):
        thing = live()
        for name in ("story", "played"):
            with self.assertRaises(AttributeError):
                setattr(thing, name, None)


class TestUndo(LiveCase):
    def test_step_by_step(self):
        thing = live()
        self.assertIs(thing.undo(), False)
        thing.do("run 0 0 1")
        thing.several(["send 0", "hear 0"])
        thing.several([])
        thing.tool = last()
        thing.do("send 0")
        self.assertEqual(len(thing), 5)
        for tool, events in ((last(), 3), (plain(), 3), (plain(), 3), (plain(), 1), (plain(), 0)):
            self.assertIs(thing.undo(), True)
            self.assertEqual((thing.tool, thing.story.events), (tool, ("run 0 0 1", "send 0", "hear 0")[:events]))
            self.assertEqual(attributes(thing.played), attributes(play(tool, thing.story)))
        self.assertIs(thing.undo(), False)
        self.assert_state(thing, plain(), story("a b c", 1), 0)

    def test_what_failed_is_not_taken_back(self):
        thing = live()
        thing.do("send 0")
        self.assert_fails(InvalidStory, 1, thing.do, "x")
        self.assert_fails(Refused, 1, thing.several, ["send 0", "x"])
        self.assertIs(thing.undo(), True)
        self.assertIs(thing.undo(), False)

    def test_going_on_behind_it(self):
        thing = live()
        thing.several(["send 0", "send 0"])
        thing.undo()
        self.assertEqual(thing.do("run 0 2"), ())
        self.assert_fails(InvalidStory, 1, thing.do, "hear 0")
        self.assert_state(thing, plain(), story("a b c", 1, "run 0 2"), 1)


class TestTrial(LiveCase):
    def test_all_is_as_it_was(self):
        thing = live()
        thing.do("run 0 0 1")
        thing.do("send 0")
        with thing.trial() as inside:
            self.assertIs(inside, thing)
            self.assertEqual(thing.do("hear 0"), (0, 1))
            thing.tool = last()
            thing.several(["edit -"])
            self.assertEqual(len(thing), 5)
        self.assert_state(thing, plain(), story("a b c", 1, "run 0 0 1", "send 0"), 2)
        with thing.trial():
            for _ in range(2):
                self.assertIs(thing.undo(), True)
            self.assertIs(thing.undo(), False)
            thing.do("fetch 0")
        self.assert_state(thing, plain(), story("a b c", 1, "run 0 0 1", "send 0"), 2)
        self.assertIs(thing.undo(), True)
        self.assert_state(thing, plain(), story("a b c", 1, "run 0 0 1"), 1)

    def test_errors_go_on(self):
        thing = live()
        thing.do("send 0")
        for error in (KeyError("x"), ValueError(), KeyboardInterrupt(), InvalidStory(3)):
            with self.assertRaises(error.__class__) as caught:
                with thing.trial():
                    thing.several(["hear 0", "edit x"])
                    raise error
            self.assertIs(caught.exception, error)
            self.assert_state(thing, plain(), story("a b c", 1, "send 0"), 1)
        with self.assertRaises(InvalidStory) as caught:
            with thing.trial():
                thing.do("send 0")
                thing.do("x")
        self.assertEqual(caught.exception.at, 2)
        self.assertEqual(len(thing), 1)

    def test_one_within_another(self):
        thing = live()
        with thing.trial():
            thing.do("send 0")
            with thing.trial():
                thing.do("hear 0")
                thing.tool = near()
            self.assert_state(thing, plain(), story("a b c", 1, "send 0"), 1)
            thing.do("run 0")
        self.assert_state(thing, plain(), story("a b c", 1), 0)

    def test_what_counts_is_when_it_is_entered(self):
        thing = live()
        block, other = thing.trial(), thing.trial()
        self.assertIsNot(block, other)
        thing.do("send 0")
        with block:
            thing.do("hear 0")
        self.assert_state(thing, plain(), story("a b c", 1, "send 0"), 1)
        thing.do("run 0")
        with other:
            thing.undo()
            thing.undo()
        self.assert_state(thing, plain(), story("a b c", 1, "send 0", "run 0"), 2)

    def test_left_by_return_and_break(self):
        thing = live()

        def leave():
            with thing.trial():
                return thing.do("send 0")

        self.assertEqual(leave(), ())
        for _ in range(2):
            with thing.trial():
                thing.do("send 0")
                break
        self.assert_state(thing, plain(), story("a b c", 1), 0)

    def test_within(self):
        thing = live()
        thing.several(EVENTS[:2])
        seen = []

        def work(one):
            seen.append(one)
            return [one.do("hear 0"), len(one)]

        self.assertEqual(thing.within(work), [(0, 1), 2])
        self.assertIs(seen[0], thing)
        self.assertEqual(len(seen), 1)
        self.assertIsNone(thing.within(work=lambda one: one.change(last())))
        self.assert_state(thing, plain(), story("a b c", 1, *EVENTS[:2]), 1)

    def test_within_goes_wrong(self):
        thing = live()

        def work(one):
            one.do("send 0")
            one.several(["hear 0", "hear 1"])

        self.assertEqual(self.assert_fails(Refused, 1, thing.within, work).__cause__.at, 2)
        self.assert_state(thing, plain(), story("a b c", 1), 0)
        with self.assertRaises(ZeroDivisionError):
            thing.within(lambda one: one.do("send 0") or 1 // 0)
        self.assertEqual(len(thing), 0)


class TestAnySteps(LiveCase):
    def test_any_steps(self):
        """Each state is written down beside the live thing."""
        for seed in range(40):
            dice = random.Random(seed)
            states = [(some_tool(dice, 3), some_story(dice, 0, 2))]
            thing = Live(states[0][0], states[0][1].first, 2)
            for _ in range(25):
                self.step(dice, thing, states)
                self.assert_state(thing, *states[-1], len(states) - 1)

    def step(self, dice, thing, states):
        tool, ahead = states[-1]
        way = dice.choice(["do", "do", "several", "change", "undo", "trial"])
        if way == "undo":
            self.assertIs(thing.undo(), len(states) > 1)
            if len(states) > 1:
                states.pop()
        elif way == "change":
            states.append((some_tool(dice, 3), ahead))
            thing.change(states[-1][0])
        elif way == "trial":
            with thing.trial():
                copy = list(states)
                for _ in range(dice.randint(0, 3)):
                    self.step(dice, thing, copy)
        else:
            texts = ["send 0", "run 1", "run 0 0", "fetch 1", "fetch 0", "hear 0", "hear 1", "edit a:0 x", "edit b a:1"]
            events = [dice.choice(texts) for _ in range(1 if way == "do" else dice.randint(0, 3))]
            self.go(thing, states, way, events)

    def go(self, thing, states, way, events):
        tool, ahead = states[-1]
        try:
            after = ahead.more(events)
        except InvalidStory as error:
            if way == "do":
                self.assert_fails(InvalidStory, error.at, thing.do, events[0])
            else:
                refused = self.assert_fails(Refused, error.at - len(ahead), thing.several, events)
                self.assertEqual(refused.__cause__.at, error.at)
            return
        told = tuple(play(tool, after.upto(many)).told for many in range(len(ahead) + 1, len(after) + 1))
        self.assertEqual((thing.do(events[0]),) if way == "do" else thing.several(events), told)
        states.append((tool, after))


if __name__ == "__main__":
    unittest.main()
