"""[21], [22]: desks."""

import random
import unittest

from ledmarks.deciding import faults, fewest
from ledmarks.desk import Desk
from ledmarks.errors import InvalidCommand, InvalidStory, InvalidText, InvalidTool
from ledmarks.live import Live
from ledmarks.runs import play
from ledmarks.tools import Tool
from models import attributes, some_story, some_tool
from things import ANY, FAULTS, last, near, plain, story

EVENTS = ["run 0 0 1", "send 0", "hear 0"]


def keeping(tool):
    """The command that keeps the tool."""
    return "tool " + str(tool).replace("\n", " ; ")


def desk(*commands):
    one = Desk()
    for command in commands:
        one.say(command)
    return one


def busy():
    """A desk with a tool and a live thing."""
    return desk(keeping(plain()), "begin 2 a b c", *["do " + event for event in EVENTS])


class DeskCase(unittest.TestCase):
    def setUp(self):
        self.empty = Desk()
        self.tooled = desk(keeping(last()))
        self.busy = busy()

    def say(self, one, command, wanted):
        told = one.say(command)
        self.assertEqual((told, told.__class__), (wanted, str), command)

    def assert_wrong(self, command, *desks):
        """No command, on these desks or on all; nothing changes."""
        for one in desks or (self.empty, self.tooled, self.busy):
            before = self.state(one)
            with self.assertRaises(InvalidCommand, msg=command):
                one.say(command)
            self.assertEqual(self.state(one), before, command)

    def state(self, one):
        if one.live is None:
            return (one.tool, None)
        return (one.tool, id(one.live), one.live.tool, one.live.story, len(one.live), attributes(one.live.played))

    def assert_fails(self, error, at, one, command):
        before = self.state(one)
        with self.assertRaises(error) as caught:
            one.say(command)
        self.assertIs(caught.exception.__class__, error)
        self.assertEqual(caught.exception.word if error is InvalidTool else caught.exception.at, at, command)
        self.assertEqual(self.state(one), before, command)


class TestCommands(DeskCase):
    def test_the_beginning(self):
        self.assertEqual((Desk().tool, Desk().live), (None, None))
        self.assertEqual(sorted(vars(Desk())), ["live", "tool"])

    def test_by_name(self):
        self.assertEqual(Desk().say(command=keeping(plain())), "3")

    def test_tool(self):
        one = Desk()
        self.say(one, keeping(plain()), "3")
        self.assertEqual((one.tool, one.live), (plain(), None))
        self.say(one, "tool marks a ; told ; parts own ; send keep", "0")
        self.assertEqual(one.tool, Tool(["a"], [], ["own"], False, []))
        self.say(one, "tool marks a b ; told b ; parts below own ; send clear ; run any to b ; run a to a", "2")
        self.assertEqual(str(one.tool), "marks a b\ntold b\nparts below own\nsend clear\nrun any to b\nrun a to a")

    def test_a_live_thing_changes_to_the_tool(self):
        thing = self.busy.live
        self.busy.say("do send 0")
        self.say(self.busy, keeping(last()), "3")
        self.assertIs(self.busy.live, thing)
        self.assertEqual((self.busy.tool, thing.tool, len(thing)), (last(), last(), 5))
        self.say(self.busy, "do hear 1", "-")
        self.assertEqual(thing.played.met, ("fallen", "missed", "order"))

    def test_begin(self):
        one = self.tooled
        for machines in (1, 2, 3, 4):
            for text, many in (("a b c", 3), ("-", 0), ("a", 1), ("x x x x x x x x", 8)):
                self.say(one, f"begin {machines} {text}", str(many))
                self.assertIs(one.live.__class__, Live)
                self.assertEqual((one.live.story, one.live.tool, len(one.live)), (story(text, machines), last(), 0))
        thing = one.live
        one.say("begin 4 x x x x x x x x")
        self.assertIsNot(one.live, thing)

    def test_do(self):
        one = desk(keeping(plain()), "begin 2 a b c")
        for event, wanted in (("run 0 0 2", "-"), ("send 0", "-"), ("hear 0", "0 2"), ("edit c:2 x a:0", "0 2"),
                              ("fetch 1", "0 2"), ("run 1", "0 2"), ("edit a:2", "0"), ("edit -", "-")):
            self.say(one, "do " + event, wanted)
        self.assertEqual(len(one.live), 8)

    def test_rows_of_two_digits(self):
        text = " ".join(["a"] * 12)
        one = desk(keeping(plain()), "begin 1 " + text, "do run 0 2 10 11", "do send 0")
        self.say(one, "do hear 0", "2 10 11")
        self.say(one, "mark 10", "run known")
        self.assert_wrong("mark 12", one)

    def test_mark(self):
        for row, wanted in enumerate(("run known", "run known", "none")):
            self.say(self.busy, f"mark {row}", wanted)
        self.busy.say("do edit x:0 b:1")
        self.say(self.busy, "mark 0", "none")
        self.say(self.busy, "mark 1", "run known")
        one = desk(keeping(near()), "begin 1 a b c", *["do " + event for event in EVENTS], "do edit a:0 b:1 x c:2")
        self.say(one, "mark 1", "run")
        one = desk(keeping(last()), "begin 1 a", "do run 0 0", "do send 0", "do hear 0", "do send 0", "do hear 1")
        self.say(one, "mark 0", "none known")

    def test_faults(self):
        self.say(self.tooled, "faults", "fallen missed order")
        self.say(self.busy, "faults", "never")
        self.say(desk(keeping(near())), "faults", "false")

    def test_fewest(self):
        for fault, wanted in (("fallen", "2"), ("false", "never"), ("missed", "2"), ("order", "0"), ("twice", "never")):
            self.say(self.tooled, "fewest " + fault, wanted)
            self.say(self.busy, "fewest " + fault, "never")

    def test_undo(self):
        for row in ("run known", "none", "none"):
            self.say(self.busy, "mark 0", row)
            self.say(self.busy, "undo", "undone")
        for _ in range(2):
            self.say(self.busy, "undo", "nothing")
        self.assertEqual(self.busy.live.story, story("a b c", 2))

    def test_undo_of_a_change(self):
        self.busy.say(keeping(last()))
        self.say(self.busy, "undo", "undone")
        self.assertEqual((self.busy.tool, self.busy.live.tool), (last(), plain()))
        self.say(self.busy, "faults", "fallen missed order")
        self.say(self.busy, "fewest order", "0")
        self.say(self.busy, "do send 0", "0 1")
        self.say(self.busy, "do hear 1", "0 1")
        self.say(self.busy, "begin 1 a", "1")
        self.assertEqual(self.busy.live.tool, last())

    def test_the_live_thing_can_be_used_besides(self):
        self.busy.live.several(["edit -", "send 1"])
        self.assert_wrong("mark 0", self.busy)
        self.say(self.busy, "undo", "undone")
        self.say(self.busy, "mark 0", "run known")
        with self.busy.live.trial():
            self.say(self.busy, "do edit x y", "-")
            self.say(self.busy, "mark 1", "none")
        self.say(self.busy, "mark 1", "run known")

    def test_any_tools_and_stories(self):
        for seed in range(40):
            dice = random.Random(seed)
            tool, told = some_tool(dice, 3), some_story(dice, 12, dice.randint(1, 4))
            one = desk()
            self.say(one, keeping(tool), str(len(tool)))
            self.say(one, "faults", " ".join(faults(tool)) or "never")
            for fault in FAULTS:
                self.say(one, "fewest " + fault, str(fewest(tool, fault)).replace("None", "never"))
            self.say(one, f"begin {told.machines} {told.first}", str(len(told.first)))
            for many, event in enumerate(told.events):
                played = play(tool, told.upto(many + 1))
                self.say(one, "do " + event, " ".join(str(row) for row in played.told) or "-")
                for row, mark in enumerate(played.marks):
                    self.say(one, f"mark {row}", mark + " known" * played.known[row])
                self.assert_wrong(f"mark {len(played.marks)}", one)
            for _ in told.events:
                self.say(one, "undo", "undone")
            self.say(one, "undo", "nothing")


class TestNoCommands(DeskCase):
    def test_any_value(self):
        for value in [*ANY, b"faults", ["faults"], ("undo",), self.busy]:
            self.assert_wrong(value)

    def test_newlines_and_empty_words(self):
        for command in (keeping(plain()), "begin 1 a b", "do send 0", "mark 0", "faults", "fewest false", "undo"):
            for wrong in (" " + command, command + " ", command + "\n", "\n" + command, command + "  x"):
                self.assert_wrong(wrong)
            for space in ("  ", "\n", " \n", "\n "):
                for many in range(1, command.count(" ") + 1):
                    self.assert_wrong(command.replace(" ", space, many))
        self.assert_wrong("tool " + str(plain()))
        self.assert_wrong("tool marks a ; told ; parts own ; send keep ;  run any to a")
        self.assert_wrong("do edit a  b")

    def test_other_words(self):
        for command in ("Tool x", "tools x", "start 1 a", "do", "tool", "begin", "begin 1", "begin a", "begin a b", "mark",
                        "fewest", "undo 1", "undo undo", "faults x", "faults false", "mark 0 1", "mark 0 known",
                        "fewest false false", "fewest 1", "fewest False", "fewest never", "redo", "FAULTS", "undo\t",
                        "mark\t0", "-", "send 0", "run 0 0"):
            self.assert_wrong(command)

    def test_numbers(self):
        for number in ("0", "5", "9", "10", "01", "04", "-1", "+1", "1.", "a", "\u00b2", "\u0661", "100", "1a"):
            self.assert_wrong(f"begin {number} a b")
        for number in ("3", "4", "10", "99", "100", "00", "01", "-1", "-0", "+0", "a", "0a", "\u00b2", "\u0660", "0."):
            self.assert_wrong("mark " + number)

    def test_faults(self):
        for word in ("none", "run", "fallen,", "told", "missed?", "any", "\u00e9"):
            self.assert_wrong("fewest " + word)

    def test_without_a_tool(self):
        for command in ("begin 1 a", "begin 1 A", "do send 0", "do x", "mark 0", "faults", "fewest false", "undo"):
            self.assert_wrong(command, self.empty)

    def test_without_a_live_thing(self):
        for command in ("do send 0", "do x", "mark 0", "undo"):
            self.assert_wrong(command, self.tooled)
        # What went wrong began nothing.
        self.assert_fails(InvalidText, 0, self.tooled, "begin 1 A")
        self.assert_fails(InvalidText, 0, self.empty, "tool x")
        self.assert_wrong("undo", self.tooled)
        self.assert_wrong("faults", self.empty)

    def test_a_text_without_rows(self):
        self.tooled.say("begin 1 -")
        self.assert_wrong("mark 0", self.tooled)


class TestOtherErrors(DeskCase):
    def test_of_tools(self):
        good = keeping(plain())
        for one in (self.empty, self.tooled, self.busy):
            for command, at in (("tool x", 0), ("tool ;", 0), ("tool marks a", 1), ("tool marks a ; told", 2),
                                ("tool marks a ; told ; parts own", 3), (good + " ; x", 7), (good + " ;", 6),
                                (good + " ; run any to a ;", 7), ("tool ; " + good[5:], 0), (good.replace(" ; ", " ;", 1), 0),
                                (good.replace(" ; ", "; ", 1), 0), ("tool marks a ; ; told ; parts own", 1),
                                (good.replace("send clear", "send"), 3), (good + " ; run any to any", 7)):
                self.assert_fails(InvalidText, at, one, command)
            for command, word in ((good.replace("marks none run", "marks none run run"), "marks"),
                                  (good.replace("told run", "told none"), "told"),
                                  (good.replace("parts own", "parts above"), "parts"),
                                  (good + " ; run any to old", "mark"), (good + " ; lead always none to run", "blank")):
                self.assert_fails(InvalidTool, word, one, command)

    def test_of_texts(self):
        for one in (self.tooled, self.busy):
            for text, at in (("A", 0), ("a b C", 2), ("a b:x", 1), ("a:0 b:0", 1), ("a -", 1), ("- a", 0), ("any", 0),
                             ("a:00", 0), ("a ; b", 1)):
                self.assert_fails(InvalidText, at, one, "begin 1 " + text)
            for text in ("a:0", "a b:1", "a:7 b c"):
                self.assert_fails(InvalidStory, 0, one, "begin 2 " + text)

    def test_of_events(self):
        for many in range(4):
            one = desk(keeping(plain()), "begin 2 a b c", *["do " + event for event in EVENTS[:many]])
            for event in ("x", "send", "send 2", "hear 1", "run 0 3", "run 0 1 0", "edit A", "edit a:3", "do send 0", "undo",
                          "-", "send 00", "edit", "send\t0"):
                self.assert_fails(InvalidStory, many, one, "do " + event)


if __name__ == "__main__":
    unittest.main()
