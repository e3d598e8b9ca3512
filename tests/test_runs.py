"""[12], [13], [14]: runs."""

import random
import unittest

from ledmarks import runs
from ledmarks.runs import Played, lacking, play
from ledmarks.stories import Story
from ledmarks.tools import Tool
from models import World, attributes, some_story, some_tool, wanted_attributes
from things import FAULTS, last, near, plain, story

HEAD = ["marks none run old", "told run old", "parts own", "send keep"]


def tool(*rows, told="run old", parts="own", send="keep"):
    return Tool.read("\n".join(["marks none run old", f"told {told}".strip(), f"parts {parts}", f"send {send}", *rows]))


class RunCase(unittest.TestCase):
    def head(self, one, text, machines, *events):
        """The marks of the head, with a star behind those that are known."""
        return self.text(play(one, story(text, machines, *events)).marks,
                         play(one, story(text, machines, *events)).known)

    def book(self, one, machine, text, machines, *events):
        """The edition of a machine and its book, written likewise."""
        edition, marks, known = play(one, story(text, machines, *events)).books[machine]
        return f"{edition}: " + self.text(marks, known)

    def text(self, marks, known):
        return " ".join(mark + ("*" if of else "") for mark, of in zip(marks, known))

    def assert_met(self, one, fault, text, machines, events, rows):
        """The fault is met behind the last event at just these rows."""
        played = play(one, story(text, machines, *events))
        self.assertEqual([row for word, row in played.now if word == fault], rows)
        if rows:
            self.assertIn(fault, played.met)


class TestBooks(RunCase):
    def test_the_beginning(self):
        played = play(plain(), story("a b", 2))
        self.assertEqual(attributes(played), {
            "marks": ("none", "none"), "known": (False, False), "told": (), "sent": (), "now": (), "met": (),
            "books": ((0, ("none", "none"), (False, False)), (0, ("none", "none"), (False, False)))})
        played = play(last(), story("-", 1))
        self.assertEqual((played.marks, played.known, played.books), ((), (), ((0, (), ()),)))

    def test_run(self):
        one = tool("run none to run", "run run to old")
        self.assertEqual(self.book(one, 0, "a b c", 2, "run 0 0 2"), "0: run* none run*")
        self.assertEqual(self.book(one, 1, "a b c", 2, "run 0 0 2"), "0: none none none")
        self.assertEqual(self.book(one, 0, "a b c", 2, "run 0 0 2", "run 0 1 2"), "0: run* run* old*")
        self.assertEqual(self.book(one, 0, "a b c", 2, "run 0 0 2", "run 0"), "0: run* none run*")
        self.assertEqual(self.head(one, "a b c", 2, "run 0 0 1 2"), "none none none")
        # A row that is run is known, though no row of the tool fits.
        self.assertEqual(self.book(tool(), 0, "a b", 1, "run 0 1"), "0: none none*")

    def test_a_machine_runs_its_own_edition(self):
        one = tool("run any to run")
        self.assertEqual(self.book(one, 0, "a b", 1, "edit x y z", "run 0 1"), "0: none run*")
        self.assertEqual(self.book(one, 0, "a b", 1, "edit x y z", "fetch 0", "run 0 2"), "1: none none run*")

    def test_fetch(self):
        one = tool("run any to run", "lead own run to run", "lead above any to old")
        self.assertEqual(self.book(one, 0, "a b c d", 1, "run 0 0 1 2", "edit a:0 x:1 y:2 c b:1".replace(" b:1", " d:3"),
                                   "fetch 0"), "1: run* old none none none")
        self.assertEqual(self.book(one, 0, "a b", 1, "run 0 1", "edit b:1 a:0", "fetch 0"), "1: run* none")
        self.assertEqual(self.book(one, 0, "a b", 1, "run 0 1", "edit a:0 b", "fetch 0"), "1: none none")
        self.assertEqual(self.book(one, 0, "a b", 1, "run 0 1", "edit a:0 b:1"), "0: none run*")

    def test_fetch_of_the_newest_edition_does_nothing(self):
        one = tool("run any to run", "lead always run to old", "lead always old to run")
        ahead = ["run 0 0", "fetch 0", "fetch 0"]
        self.assertEqual(self.book(one, 0, "a b", 1, *ahead), "0: run* none")
        self.assertEqual(self.book(one, 0, "a b", 1, *ahead, "edit a:0 b:1"), "0: run* none")
        self.assertEqual(self.book(one, 0, "a b", 1, *ahead, "edit a:0 b:1", "fetch 0"), "1: old* none")
        self.assertEqual(self.book(one, 0, "a b", 1, *ahead, "edit a:0 b:1", "fetch 0", "fetch 0"), "1: old* none")

    def test_known_goes_by_the_promise(self):
        rows = ["run any to run", "lead always any to run"]
        edited = ["run 0 0 1 2", "edit a:0 y:1 c:2", "fetch 0"]
        for parts, books in [("own", "1: run* run run*"), ("own above", "1: run* run run"),
                             ("own below", "1: run run run*"), ("own above below", "1: run run run")]:
            self.assertEqual(self.book(tool(*rows, parts=parts), 0, "a b c", 1, *edited), books)

    def test_changed_and_changed_back_meanwhile(self):
        one = tool("run any to run", "lead own run to run")
        events = ["run 0 0", "edit x:0 b:1", "edit a:0 b:1"]
        self.assertEqual(self.book(one, 0, "a b", 1, *events, "fetch 0"), "2: run* none")
        self.assertEqual(self.head(one, "a b", 1, *events, "send 0"), "none none")
        one = tool("run any to run", "lead own run to run", "join any any to came")
        self.assertEqual(self.head(one, "a b", 1, *events, "send 0", "hear 0"), "run* none")
        self.assertEqual(self.head(one, "a b", 1, "run 0 0", "send 0", "hear 0", *events[1:]), "none none")
        self.assertEqual(self.book(one, 0, "a b", 1, "run 0 0", "edit x:0 b:1", "fetch 0", "edit a:0 b:1", "fetch 0"),
                         "2: none none")

    def test_rows_in_other_places(self):
        one = tool("run any to run", "lead own run to run")
        self.assertEqual(self.book(one, 0, "a b c", 1, "run 0 0 1", "edit c:2 b:1 x a:0", "fetch 0"),
                         "1: none run* none run*")
        # A row that was left out and put in again is a new one.
        self.assertEqual(self.book(one, 0, "a b", 1, "run 0 0 1", "edit b:1", "edit a b:0", "fetch 0"), "2: none run*")

    def test_send(self):
        for send, behind in (("keep", "0: run* none"), ("clear", "0: none none")):
            one = tool("run any to run", send=send)
            played = play(one, story("a b", 2, "run 0 0", "run 1 1", "send 0"))
            self.assertEqual(played.sent, ((0, ("run", "none"), (True, False)),))
            self.assertEqual(self.text(*played.books[0][1:]), behind[3:])
            self.assertEqual(self.text(*played.books[1][1:]), "none run*")
            self.assertEqual((played.books[0][0], played.marks), (0, ("none", "none")))

    def test_a_message_stays_what_it_was(self):
        one = tool("run any to run", "lead own run to run")
        played = play(one, story("a b", 1, "send 0", "run 0 0", "send 0", "edit b:1 a:0", "fetch 0", "run 0 0", "send 0"))
        self.assertEqual(played.sent, ((0, ("none", "none"), (False, False)), (0, ("run", "none"), (True, False)),
                                       (1, ("run", "run"), (True, True))))

    def test_hear(self):
        one = tool("run any to run", "join none run to run", "join run run to old")
        ahead = ["run 0 0", "send 0", "run 1 1", "send 1"]
        self.assertEqual(self.head(one, "a b c", 2, *ahead, "hear 0"), "run* none none")
        self.assertEqual(self.head(one, "a b c", 2, *ahead, "hear 1"), "none run* none")
        self.assertEqual(self.head(one, "a b c", 2, *ahead, "hear 1", "hear 0"), "run* run* none")
        self.assertEqual(self.head(one, "a b c", 2, *ahead, "hear 1", "hear 1"), "none old* none")
        self.assertEqual(self.head(one, "a b c", 2, *ahead, "hear 1", "hear 0", "hear 1"), "run* old* none")
        self.assertEqual(self.book(one, 0, "a b c", 2, *ahead, "hear 1"), "0: run* none none")

    def test_hear_at_the_newest_edition(self):
        # Led by three equal contents a mark would be another one.
        one = tool("run any to run", "lead always run to old", "join none any to came")
        self.assertEqual(self.head(one, "a b", 1, "run 0 0", "send 0", "hear 0"), "run* none")
        self.assertEqual(self.head(one, "a b", 1, "run 0 0", "send 0", "edit a:0 b:1", "hear 0"), "old* none")
        self.assertEqual(self.head(one, "a", 1, "edit a:0 b", "fetch 0", "run 0 0 1", "send 0", "hear 0"), "run* run*")

    def test_hear_late(self):
        one = tool("run any to run", "lead own run to run", "lead not own run to old", "join none any to came")
        ahead = ["run 0 0 1 2", "send 0", "edit b:1 x a:0", "edit b:0 y:1 z:2 c"]
        self.assertEqual(self.head(one, "a b c", 1, *ahead, "hear 0"), "run* none old none")
        self.assertEqual(self.head(one, "a b c", 1, *ahead, "edit a", "hear 0"), "none")
        self.assertEqual(self.head(one, "a b c", 1, *ahead, "edit -", "hear 0"), "")

    def test_other_rows_stay(self):
        # A blank mark that comes is joined, too; but to rows that came in later nothing comes.
        one = tool("run any to run", "lead own any to run", "join run none to old", "join any any to came")
        ahead = ["send 0", "run 0 0", "send 0", "hear 1", "edit a:0 n", "fetch 0", "run 0 1", "send 0"]
        self.assertEqual(self.head(one, "a b", 1, *ahead), "run* none")
        self.assertEqual(self.head(one, "a b", 1, *ahead, "hear 2"), "run* run*")
        self.assertEqual(self.head(one, "a b", 1, *ahead, "hear 2", "hear 0"), "old* run*")

    def test_known_at_the_head(self):
        one = tool("run any to run", "lead always run to run", "join any any to here")
        ahead = ["run 0 0", "send 0"]
        self.assertEqual(self.head(one, "a b", 1, *ahead, "hear 0"), "none* none")
        self.assertEqual(self.head(one, "a b", 1, *ahead, "edit x:0", "hear 0"), "none")
        self.assertEqual(self.head(one, "a b", 1, *ahead, "hear 0", "edit a:0 x b"), "none* none none")
        self.assertEqual(self.head(one, "a b", 1, *ahead, "hear 0", "edit x:0", "edit a:0"), "none")
        self.assertEqual(self.head(one, "a b", 1, "send 0", *ahead, "hear 1", "hear 0"), "none* none")

    def test_the_head_is_led_step_by_step(self):
        one = tool("run any to run", "lead own run to old", "lead own old to run", "join any any to came")
        ahead = ["run 0 0", "send 0", "hear 0"]
        self.assertEqual(self.head(one, "a", 1, *ahead, "edit a:0"), "old*")
        self.assertEqual(self.head(one, "a", 1, *ahead, "edit a:0", "edit a:0"), "run*")
        self.assertEqual(self.book(one, 0, "a", 1, *ahead, "edit a:0", "edit a:0", "fetch 0"), "2: old*")


class TestFaults(RunCase):
    def test_fallen_by_a_hearing(self):
        ahead = ["run 0 0 1", "send 0", "send 0", "hear 0"]
        self.assert_met(last(), "fallen", "a b", 1, ahead, [])
        self.assert_met(last(), "fallen", "a b", 1, [*ahead, "hear 1"], [0, 1])
        self.assert_met(last(), "fallen", "a b", 1, [*ahead, "hear 1", "hear 1"], [])
        self.assert_met(plain(), "fallen", "a b", 1, [*ahead, "hear 1"], [])
        self.assertIn("fallen", play(last(), story("a b", 1, *ahead, "hear 1", "hear 0")).met)
        # From a told mark to another one that is told is no fall.
        one = tool("run any to run", "join none run to run", "join run run to old")
        self.assert_met(one, "fallen", "a", 1, ["run 0 0", "send 0", "hear 0", "hear 0"], [])

    def test_fallen_by_an_edit(self):
        ahead = ["run 0 0 1 2", "send 0", "hear 0"]
        rows = ["run any to run", "lead own and above and below run to run", "join any run to run"]
        for parts, fallen in [("own", [0, 2]), ("own above", [0]), ("own below", [2]), ("own above below", [])]:
            one = tool(*rows, parts=parts)
            self.assert_met(one, "fallen", "a b c", 1, ahead, [])
            self.assert_met(one, "fallen", "a b c", 1, [*ahead, "edit a:0 x:1 c:2"], fallen)
            self.assert_met(one, "fallen", "a b c", 1, [*ahead, "edit a:0 x:1 c:2", "fetch 0"], [])
            self.assert_met(one, "fallen", "a b c", 1, [*ahead, "edit a:0 b:1 c:2"], [])
            self.assert_met(one, "fallen", "a b c", 1, [*ahead, "edit a b c"], [])
        # The row that fell is meant by its number in the newer text.
        one = tool("run any to run", "join any run to run")
        self.assert_met(one, "fallen", "a b c", 1, [*ahead, "edit x c:2 y b:1 z:0"], [1, 3])

    def test_false(self):
        rows = ["run any to run", "lead always run to run", "join any run to run"]
        ahead = ["run 0 0 1 2", "send 0", "hear 0"]
        for parts, rest in [("own", [1]), ("own above", [1, 2]), ("own below", [0, 1]), ("own above below", [0, 1, 2])]:
            one = tool(*rows, parts=parts)
            self.assert_met(one, "false", "a b c", 1, ahead, [])
            self.assert_met(one, "false", "a b c", 1, [*ahead, "edit a:0 x:1 c:2"], rest)
            self.assert_met(one, "false", "a b c", 1, [*ahead, "edit a:0 x:1 c:2", "edit a:0 b:1 c:2"], [])
            self.assert_met(one, "false", "a b c", 1, [*ahead, "edit b:1 c:2 a:0"],
                            [] if parts == "own" else {"own above": [0, 2], "own below": [1, 2]}.get(parts, [0, 1, 2]))

    def test_false_looks_at_the_edition_of_the_machine(self):
        one = tool("run any to run", "lead always run to run", "join any run to run")
        # Machine 1 runs the row as it is now, though its marks never come.
        ahead = ["run 0 0", "send 0", "edit x:0", "hear 0"]
        self.assert_met(one, "false", "a", 2, ahead, [0])
        self.assert_met(one, "false", "a", 2, [*ahead, "run 1 0"], [0])
        self.assert_met(one, "false", "a", 2, [*ahead, "fetch 1", "run 1 0"], [])
        self.assert_met(one, "false", "a", 2, [*ahead, "fetch 1", "run 1 0", "edit a:0"], [])
        self.assert_met(one, "false", "a", 2, [*ahead, "fetch 1", "run 1 0", "edit b:0"], [0])
        # The same content in another row is no run of this row.
        self.assert_met(one, "false", "a b", 1, ["run 0 0", "send 0", "hear 0", "edit b:0 b:1"], [0])
        self.assert_met(one, "false", "a b", 1, ["run 0 0 1", "send 0", "hear 0", "edit b:0 b:1"], [0])
        # Known no more, but run as it is now: not false.
        played = play(one, story("a", 1, "run 0 0", "send 0", "hear 0", "edit x:0", "edit a:0"))
        self.assertEqual((played.told, played.known, played.now, played.met), ((0,), (False,), (), ("false",)))

    def test_false_without_a_run(self):
        one = tool("join none none to run")
        self.assert_met(one, "false", "a b", 1, ["send 0", "hear 0"], [0, 1])
        self.assert_met(one, "false", "a b", 1, ["send 0", "hear 0", "run 0 1"], [0])

    def test_missed(self):
        ahead = ["run 0 0", "send 0"]
        one = tool("join none none to run")
        self.assert_met(one, "missed", "a b", 1, ahead, [])
        self.assert_met(tool(), "missed", "a b", 1, [*ahead, "hear 0"], [0])
        self.assert_met(tool(), "missed", "a b", 1, [*ahead, "edit x b:1 a:0", "hear 0"], [2])
        self.assert_met(tool(), "missed", "a b", 1, [*ahead, "edit x:0", "hear 0"], [])
        self.assert_met(tool(parts="own below"), "missed", "a b", 1, [*ahead, "edit a:0", "hear 0"], [])
        self.assert_met(one, "missed", "a b", 1, [*ahead, "hear 0"], [])
        one = tool("run any to old", "lead own any to run", "join any old to old", told="run")
        self.assert_met(one, "missed", "a b", 1, [*ahead, "hear 0"], [0])
        self.assert_met(one, "missed", "a b", 1, [*ahead, "hear 0", "edit b:1 a:0"], [])
        self.assert_met(tool("run any to old", "join any old to old", told="run"), "missed", "a b", 1,
                        [*ahead, "hear 0", "edit b:1 a:0"], [1])
        self.assert_met(one, "missed", "a b", 1, [*ahead, "hear 0", "edit b:1 x:0"], [])

    def test_order(self):
        ahead = ["run 0 0", "send 0", "send 1"]
        self.assert_met(last(), "order", "a b", 2, ahead, [0])
        self.assert_met(last(), "order", "a b", 2, ahead[:2], [])
        self.assert_met(last(), "order", "a b", 2, [*ahead, "edit b:1 a:0"], [1])
        self.assert_met(last(), "order", "a b", 2, [*ahead, "edit b:1 x:0"], [])
        self.assert_met(last(), "order", "a b", 2, [*ahead, "edit b:1 a"], [])
        self.assert_met(plain(), "order", "a b", 2, ahead, [])
        # It hangs on the mark that is there now.
        one = tool("run any to run", "join none any to came", "join run none to none")
        self.assert_met(one, "order", "a", 2, ahead, [0])
        one = tool("run any to run", "join none run to run")
        self.assert_met(one, "order", "a", 2, ahead, [])
        one = tool("run any to run", "join none any to came", "join run run to old")
        self.assert_met(one, "order", "a", 2, ahead, [])

    def test_order_needs_two_messages(self):
        # One message that is heard twice is another matter.
        one = tool("run any to run", "join none run to run", "join run run to old")
        played = play(one, story("a", 1, "run 0 0", "send 0"))
        self.assertEqual(played.now, (("twice", 0),))
        # To a row that came in later only one of the two comes.
        one = tool("run any to run", "lead own run to run", "join run none to none", "join any any to came")
        events = ["send 0", "edit a:0 b", "fetch 1", "run 1 0 1", "send 1"]
        self.assert_met(one, "order", "a", 2, events, [0])
        self.assert_met(one, "order", "a", 2, [*events, "send 0", "fetch 0", "send 0"], [0, 1])

    def test_order_by_marks_that_are_led(self):
        one = tool("run any to run", "lead not own run to old", "join any any to came", "lead own run to run")
        events = ["run 0 0", "send 0", "edit x:0", "fetch 1", "run 1 0", "send 1"]
        self.assert_met(one, "order", "a", 2, events, [0])
        self.assert_met(one, "order", "a", 2, [*events[:2], "edit a:0", *events[3:]], [])

    def test_twice(self):
        one = tool("run any to run", "join none run to run", "join run run to old")
        ahead = ["run 0 1", "send 0"]
        self.assert_met(one, "twice", "a b", 1, ahead[:1], [])
        self.assert_met(one, "twice", "a b", 1, ahead, [1])
        self.assert_met(one, "twice", "a b", 1, [*ahead, "edit b:1"], [])
        self.assert_met(one, "twice", "a b", 1, [*ahead, "hear 0"], [])
        self.assert_met(tool("run any to run", "lead own run to run", "join none run to run", "join run run to old"),
                        "twice", "a b", 1, [*ahead, "edit b:1"], [0])
        self.assert_met(last(), "twice", "a b", 1, [*ahead, "send 0", "hear 0"], [])

    def test_now_and_at_some_moment(self):
        events = ["run 0 0", "send 0", "send 0", "hear 0", "hear 1", "edit a"]
        seen = [play(last(), story("a", 1, *events).upto(many)) for many in range(7)]
        self.assertEqual([played.now for played in seen], [
            (), (), (), (("order", 0),), (("order", 0),), (("fallen", 0), ("missed", 0), ("order", 0)), ()])
        self.assertEqual([played.met for played in seen], [
            (), (), (), ("order",), ("order",), ("fallen", "missed", "order"), ("fallen", "missed", "order")])

    def test_now_is_ascending(self):
        one = tool("run any to run", "join none any to came", "join run any to none", parts="own above below")
        played = play(one, story("a b", 1, "send 0", "run 0 0 1", "send 0", "hear 1", "hear 0"))
        self.assertEqual(played.now, (("fallen", 0), ("fallen", 1), ("missed", 0), ("missed", 1), ("order", 0),
                                      ("order", 1), ("twice", 0), ("twice", 1)))

    def test_each_fault_is_met_and_not_met(self):
        met = {fault: 0 for fault in FAULTS}
        for seed in range(150):
            dice = random.Random(seed)
            world = World(some_tool(dice), some_story(dice))
            for fault in world.met:
                met[fault] += 1
        for fault in FAULTS:
            self.assertGreater(met[fault], 5, fault)
            self.assertLess(met[fault], 145, fault)


class TestPlayed(RunCase):
    def test_the_example(self):
        one = story("a b c", 1, "run 0 0 1", "edit a:0 x:1 c:2 b", "send 0", "hear 0")
        played = play(plain(), one)
        self.assertEqual((played.marks, played.known, played.sent, played.told, played.met), (
            ("run", "none", "none", "none"), (True, False, False, False),
            ((0, ("run", "run", "none"), (True, True, False)),), (0,), ()))
        self.assertEqual(lacking(plain(), one, 0), (1, 3))

    def test_attributes(self):
        played = play(tool=plain(), story=story("a b c", 2, "run 1 0 2", "send 1", "hear 0"))
        self.assertIsInstance(played, Played)
        self.assertIs(played.__class__.__module__, runs.__name__)
        self.assertEqual(attributes(played), {
            "marks": ("run", "none", "run"), "known": (True, False, True), "told": (0, 2), "now": (), "met": (),
            "books": ((0, ("none",) * 3, (False,) * 3), (0, ("none",) * 3, (False,) * 3)),
            "sent": ((0, ("run", "none", "run"), (True, False, True)),)})

    def test_all_sequences_are_tuples(self):
        played = play(last(), story("a b", 2, "run 0 0", "send 0", "send 1", "hear 0", "hear 1"))
        for name, value in attributes(played).items():
            self.assertIs(value.__class__, tuple, name)
            for thing in value:
                self.assertNotIsInstance(thing, list)
        for _, marks, known in (*played.books, *played.sent):
            self.assertEqual((marks.__class__, known.__class__), (tuple, tuple))
            self.assertEqual({value.__class__ for value in known}, {bool})
        self.assertEqual({value.__class__ for value in played.known}, {bool})

    def test_not_iterable(self):
        with self.assertRaises(TypeError):
            iter(play(plain(), story("a", 1)))

    def test_told_in_the_order_of_the_rows(self):
        one = tool("run any to old", "join any any to came", told="old")
        self.assertEqual(play(one, story("a b c", 1, "run 0 1 2", "send 0", "hear 0")).told, (1, 2))
        self.assertEqual(play(tool("run any to old", "join any any to came", told=""),
                              story("a b c", 1, "run 0 1 2", "send 0", "hear 0")).told, ())

    def test_as_the_document_says_it(self):
        for seed in range(500):
            dice = random.Random(seed)
            one, told = some_tool(dice, marks=dice.randint(1, 4)), some_story(dice, dice.randint(4, 16))
            self.assertEqual(attributes(play(one, told)), wanted_attributes(one, told), (str(one), str(told)))

    def test_the_same_call_returns_an_equal_result(self):
        for seed in range(30):
            dice = random.Random(seed)
            one, told = some_tool(dice), some_story(dice)
            first, texts = attributes(play(one, told)), (str(one), str(told))
            play(last(), told)
            play(one, told.upto(3))
            self.assertEqual(attributes(play(one, told)), first)
            self.assertEqual(attributes(play(Tool.read(texts[0]), Story.read(texts[1]))), first)
            self.assertEqual((str(one), str(told)), texts)


class TestLacking(RunCase):
    def test_each_base(self):
        events = ["run 0 0 1 2", "send 0", "edit a:0 x:1 c:2", "edit n a:0 b:1 y:2", "hear 0"]
        one = story("a b c", 1, *events)
        self.assertEqual([lacking(plain(), one, base) for base in range(3)], [(0, 3), (0, 3), ()])
        self.assertEqual(play(plain(), one).told, (1, 2))
        # Nothing was heard: the row with the b was changed and changed back.
        self.assertEqual([lacking(plain(), one.upto(4), base) for base in range(3)], [(0, 3), (0, 2, 3), ()])
        self.assertEqual([lacking(near(), one.upto(4), base) for base in range(3)], [(0, 1, 2, 3), (0, 1, 2, 3), ()])

    def test_what_the_promise_looks_at(self):
        one = story("a b c", 1, "edit a:0 x:1 c:2")
        for parts, rows in [("own", (1,)), ("own above", (1, 2)), ("own below", (0, 1)), ("own above below", (0, 1, 2))]:
            self.assertEqual(lacking(tool(parts=parts), one, 0), rows)
            self.assertEqual(lacking(tool(parts=parts), one, base=1), ())

    def test_told_rows_are_not_lacking(self):
        one = tool("run any to run", "lead always run to run", "join any run to run")
        told = story("a b c", 1, "run 0 0 1", "send 0", "edit x:0 y:1 z:2", "hear 0")
        self.assertEqual(lacking(one, told, 0), (2,))
        self.assertEqual(lacking(tool=one, story=told.upto(3), base=0), (0, 1, 2))

    def test_no_edits_and_no_rows(self):
        self.assertEqual(lacking(plain(), story("a b", 1), 0), ())
        self.assertEqual(lacking(plain(), story("-", 1), 0), ())
        self.assertEqual(lacking(plain(), story("a b", 1, "edit -"), 0), ())

    def test_as_the_document_says_it(self):
        for seed in range(150):
            dice = random.Random(seed)
            one, told = some_tool(dice), some_story(dice, 14)
            world = World(one, told)
            for base in range(len(told.editions)):
                self.assertEqual(lacking(one, told, base), world.lacking(base), (str(one), str(told), base))


if __name__ == "__main__":
    unittest.main()
