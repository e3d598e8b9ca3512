"""[6], [7], [8]: tools."""

import itertools
import unittest

from ledmarks.errors import InvalidText, InvalidTool, NoMark, NoRow
from ledmarks.rows import Join, Lead, Run
from ledmarks.tools import Tool
from things import ANY, LINES, NAMES, NO_NAMES, near, plain

EIGHT = list(itertools.product([False, True], repeat=3))
HEAD = ["marks none run old", "told run old", "parts above own", "send keep"]


def tool(*rows):
    return Tool.read("\n".join([*HEAD, *rows]))


def made(marks=("none", "run"), told=("run",), parts=("own",), clears=False, rows=()):
    return Tool(marks, told, parts, clears, rows)


class ToolCase(unittest.TestCase):
    def assert_wrong(self, word, **arguments):
        with self.assertRaises(InvalidTool) as caught:
            made(**arguments)
        self.assertEqual(caught.exception.word, word, arguments)

    def assert_no_mark(self, value, call):
        with self.assertRaises(NoMark) as caught:
            call()
        self.assertIs(caught.exception.name, value)

    def assert_no_row(self, at, call):
        with self.assertRaises(NoRow) as caught:
            call(at)
        self.assertEqual(caught.exception.at, at)

    def assert_no_text(self, at, text):
        with self.assertRaises(InvalidText) as caught:
            Tool.read(text)
        self.assertEqual(caught.exception.at, at, text)


class TestMaking(ToolCase):
    def test_attributes(self):
        rows = [Run("any", "run"), Lead(["own"], "run", "run")]
        one = Tool(["none", "run", "old"], ["old", "run"], ["own", "below", "above"], True, rows)
        self.assertEqual(one.marks, ("none", "run", "old"))
        self.assertEqual(one.told, ("run", "old"))
        self.assertEqual(one.parts, ("above", "below", "own"))
        self.assertIs(one.clears, True)
        self.assertEqual(one.rows, tuple(rows))
        self.assertEqual(one.blank, "none")
        for value in (one.marks, one.told, one.parts, one.rows):
            self.assertIs(value.__class__, tuple)
        self.assertIs(made(clears=False).clears, False)

    def test_by_name_and_by_position(self):
        one = Tool(rows=[], clears=True, parts=["own"], told=[], marks=["a"])
        self.assertEqual(one, Tool(["a"], [], ["own"], True, []))
        self.assertEqual((one.marks, one.told, one.blank, one.rows), (("a",), (), "a", ()))

    def test_told_in_the_order_of_the_marks(self):
        marks = ("z", "c", "a", "b")
        for many in range(4):
            for told in itertools.permutations(marks[1:], many):
                one = made(marks=marks, told=list(told))
                self.assertEqual(one.told, tuple(mark for mark in marks if mark in told))

    def test_parts_in_their_order(self):
        for parts in (["own", "above"], ("above", "own")):
            self.assertEqual(made(parts=parts).parts, ("above", "own"))
        for parts in (["own", "below"], ("below", "own")):
            self.assertEqual(made(parts=parts).parts, ("below", "own"))
        for parts in itertools.permutations(["own", "above", "below"]):
            self.assertEqual(made(parts=parts).parts, ("above", "below", "own"))

    def test_wrong_marks(self):
        for marks in [[], (), "a", "none", None, 0, True, {"a"}, ["a", "a"], ["a", "b", "a"], ["none", 1], [["a"]],
                      ["a", ("b",)], ["a", None], [True]]:
            self.assert_wrong("marks", marks=marks, told=[])
        for word in NO_NAMES:
            self.assert_wrong("marks", marks=["run", word], told=[])
            self.assert_wrong("marks", marks=[word], told=[])
        for name in NAMES:
            self.assertEqual(made(marks=[name], told=[]).blank, name)

    def test_wrong_told(self):
        for told in ["run", None, 1, True, {"run": 1}, ["none"], ["run", "none"], ["run", "run"], ["x"], [["run"]],
                     [("run",)], [0], [None], ["any"], ["run", True], ["run", "x"]]:
            self.assert_wrong("told", told=told)

    def test_wrong_parts(self):
        for parts in [[], (), "own", None, 1, ["above"], ["above", "below"], ["own", "own"], ["own", "above", "above"],
                      ["own", "not above"], ["own", ""], ["own", ["above"]], ["own", None], [["own"]], ["own", 0],
                      ["own", "any"]]:
            self.assert_wrong("parts", parts=parts)

    def test_wrong_clears(self):
        for clears in [0, 1, None, "clear", "True", "", [], [True], (), Run("a", "a"), plain()]:
            self.assert_wrong("clears", clears=clears)

    def test_wrong_rows(self):
        for rows in ["", "run any to run", None, 0, True, Run("any", "run"), ["run any to run"], [None], [[]],
                     [Run("any", "run"), "x"], [[Run("any", "run")]], [plain()], plain(), {}]:
            self.assert_wrong("rows", rows=rows)

    def test_any_value_in_each_place(self):
        for value in ANY:
            if not (isinstance(value, (list, tuple)) and list(value) in (["a"], ["a", "b"])):
                self.assert_wrong("marks", marks=value, told=[])
            if value not in ((), []):
                self.assert_wrong("told", told=value)
            if value not in (["own"], ("own",)):
                self.assert_wrong("parts", parts=value)
            if not isinstance(value, bool):
                self.assert_wrong("clears", clears=value)
            if value not in ((), []):
                self.assert_wrong("rows", rows=value)

    def test_two_wrong_at_once(self):
        wrong = {"marks": [], "told": ["x"], "parts": [], "clears": 1, "rows": [0]}
        for one, other in itertools.combinations(wrong, 2):
            self.assert_wrong(one, **{one: wrong[one], other: wrong[other]})
        self.assert_wrong("marks", **wrong)

    def test_a_row_names_no_mark(self):
        for row in [Run("x", "run"), Run("any", "x"), Run("run", "x"), Lead([], "x", "run"), Lead([], "any", "x"),
                    Lead(["own"], "run", "x"), Join("x", "any", "here"), Join("any", "x", "came"),
                    Join("run", "run", "x")]:
            self.assert_wrong("mark", rows=[row])
            self.assert_wrong("mark", rows=[Run("any", "run"), row])

    def test_words_that_are_no_marks(self):
        rows = [Run("any", "run"), Lead([], "any", "run"), Join("any", "any", "here"), Join("any", "any", "came"),
                Run("none", "none"), Join("none", "none", "none"), Lead([], "run", "none")]
        self.assertEqual(made(rows=rows).rows, tuple(rows))

    def test_the_blank_is_not_led(self):
        self.assert_wrong("blank", rows=[Lead([], "none", "run")])
        self.assert_wrong("blank", rows=[Run("any", "run"), Lead(["own"], "none", "none")])

    def test_the_order_of_mark_and_blank(self):
        self.assert_wrong("mark", rows=[Lead([], "none", "run"), Run("any", "x")])
        self.assert_wrong("mark", rows=[Lead([], "none", "x")])
        self.assert_wrong("clears", clears=None, rows=[Run("x", "x")])
        self.assert_wrong("rows", rows=[Run("x", "x"), 0])
        self.assert_wrong("parts", parts=["above"], rows=[Lead([], "none", "run")])

    def test_changed_arguments(self):
        marks, told, parts, rows = ["none", "run"], ["run"], ["own"], [Run("any", "run")]
        one = Tool(marks, told, parts, True, rows)
        text = str(one)
        for value in (marks, told, parts, rows):
            value.append(value[0])
            value[0] = None
        self.assertEqual((one.marks, one.told, one.parts), (("none", "run"), ("run",), ("own",)))
        self.assertEqual((str(one), len(one), one.ran("none")), (text, 1, "run"))

    def test_arguments_are_not_changed(self):
        marks, told, parts, rows = ["a", "b", "c"], ["c", "b"], ["own", "above"], [Run("any", "b")]
        Tool(marks, told, parts, True, rows)
        self.assertEqual((marks, told, parts), (["a", "b", "c"], ["c", "b"], ["own", "above"]))
        self.assertEqual(rows, [Run("any", "b")])

    def test_beyond_the_limits_nothing_is_raised(self):
        marks = [f"m{letter}" for letter in "abcdefg"]
        one = Tool(marks, marks[1:], ["own"], False, [Run("any", marks[1])] * 20)
        self.assertEqual((len(one), len(one.marks)), (20, 7))


class TestMarks(ToolCase):
    def test_ran(self):
        one = tool("run run to old", "run any to run", "run none to none")
        self.assertEqual([one.ran(mark) for mark in one.marks], ["run", "old", "run"])
        one = tool("run old to none", "run run to old", "run run to none")
        self.assertEqual([one.ran(mark) for mark in one.marks], ["none", "old", "none"])
        one = tool("lead own any to old", "join any any to old")
        self.assertEqual([one.ran(mark) for mark in one.marks], ["none", "run", "old"])
        self.assertEqual(one.ran(mark="old"), "old")

    def test_led_by_each_test(self):
        place = {"above": 0, "own": 1, "below": 2}
        for part, at in place.items():
            for word, wanted in (("", True), ("not ", False)):
                one = tool(f"lead {word}{part} run to old")
                for same in EIGHT:
                    self.assertEqual(one.led("run", same), "old" if same[at] == wanted else "none")
                    self.assertEqual(one.led("none", same), "none")
                    self.assertEqual(one.led("old", same), "none")

    def test_all_tests_must_hold(self):
        one = tool("lead own and not above and below any to run")
        for same in EIGHT:
            self.assertEqual(one.led("old", same), "run" if same == (False, True, True) else "none")
        one = tool("lead always run to old")
        for same in EIGHT:
            self.assertEqual(one.led("run", same), "old")

    def test_the_first_row_that_fits(self):
        one = tool("run any to old", "join any any to old", "lead own and above any to run", "lead own run to old",
                   "lead always run to none", "lead always old to old", "lead always any to run")
        self.assertEqual(one.led("run", (True, True, False)), "run")
        self.assertEqual(one.led("run", (False, True, False)), "old")
        self.assertEqual(one.led("run", (True, False, True)), "none")
        self.assertEqual(one.led("old", (False, False, False)), "old")
        self.assertEqual(one.led("old", (True, True, True)), "run")

    def test_the_blank_is_led_to_the_blank(self):
        one = tool("lead always any to run")
        for same in EIGHT:
            self.assertEqual(one.led("none", same), "none")
            self.assertEqual(one.led(same=same, mark="run"), "run")

    def test_nothing_fits(self):
        for same in EIGHT:
            self.assertEqual([tool().led(mark, same) for mark in ("none", "run", "old")], ["none"] * 3)
        self.assertEqual([tool().ran(mark) for mark in ("none", "run", "old")], ["none", "run", "old"])
        for here, came in itertools.product(("none", "run", "old"), repeat=2):
            self.assertEqual(tool().joined(here, came), here)

    def test_joined(self):
        marks = ("none", "run", "old")
        one = tool("join any run to run")
        for here, came in itertools.product(marks, repeat=2):
            self.assertEqual(one.joined(here, came), "run" if came == "run" else here)
        one = tool("join old any to here", "join any any to came")
        for here, came in itertools.product(marks, repeat=2):
            self.assertEqual(one.joined(here, came), here if here == "old" else came)
        one = tool("join run old to none", "join any old to here", "join run any to came", "join any any to old")
        self.assertEqual([one.joined("run", mark) for mark in marks], ["none", "run", "none"])
        self.assertEqual([one.joined("none", mark) for mark in marks], ["old", "old", "none"])
        one = tool("run any to old", "lead always any to old", "join none run to old")
        self.assertEqual(one.joined(came="run", here="none"), "old")
        self.assertEqual(one.joined("run", "none"), "run")
        self.assertEqual(one.joined("run", "run"), "run")

    def test_keeps(self):
        place = {"above": 0, "own": 1, "below": 2}
        for parts in (["own"], ["own", "above"], ["own", "below"], ["own", "above", "below"]):
            one = made(parts=parts)
            for same in EIGHT:
                self.assertIs(one.keeps(same), all(same[place[part]] for part in parts))
        self.assertIs(near().keeps(same=(True, True, False)), False)

    def test_no_mark(self):
        one = tool("run any to run", "lead always any to run", "join any any to came")
        for value in ANY:
            self.assert_no_mark(value, lambda: one.ran(value))
            self.assert_no_mark(value, lambda: one.led(value, (True, True, True)))
            self.assert_no_mark(value, lambda: one.joined(value, "run"))
            self.assert_no_mark(value, lambda: one.joined("run", value))
            self.assert_no_mark(value, lambda: one.joined(value, ["other"]))

    def test_here_is_looked_at_first(self):
        here, came = ["x"], ["y"]
        self.assert_no_mark(here, lambda: plain().joined(here, came))
        self.assert_no_mark(here, lambda: plain().joined(came=came, here=here))

    def test_the_example(self):
        told = (plain().led("run", (False, True, False)), plain().led("run", (True, False, True)),
                near().keeps((True, True, False)), plain().joined("none", "run"))
        self.assertEqual(told, ("run", "none", False, "run"))


class TestRows(ToolCase):
    def test_length_and_index(self):
        rows = ["run any to run", "lead own any to old", "join any any to came"]
        one = tool(*rows)
        self.assertEqual(len(one), 3)
        self.assertEqual([str(one[at]) for at in range(3)], rows)
        self.assertEqual((len(tool()), tool().rows), (0, ()))

    def test_no_row(self):
        one = plain()
        for at in [-1, -3, -4, 3, 4, 10 ** 40, -10 ** 40]:
            self.assert_no_row(at, lambda at: one[at])
            self.assert_no_row(at, one.without)
        for at in [0, -1, 1]:
            self.assert_no_row(at, lambda at: tool()[at])
            self.assert_no_row(at, tool().without)

    def test_without(self):
        rows = ["run any to run", "lead own any to old", "join any any to came"]
        one = tool(*rows)
        for at in range(3):
            self.assertEqual(one.without(at), tool(*rows[:at], *rows[at + 1:]))
        self.assertEqual(str(one.without(at=1)), "\n".join([*HEAD, rows[0], rows[2]]))
        self.assertEqual(str(one), "\n".join([*HEAD, *rows]))
        self.assertIs(plain().without(0).clears, True)

    def test_heeding(self):
        rows = ["run any to run", "lead own and not above run to old", "lead not below and above any to run",
                "lead always old to old", "lead not own and not below and not above run to run",
                "join any run to here"]
        one = tool(*rows)
        self.assertEqual(one.heeding(["above", "below", "own"]), one)
        self.assertEqual(one.heeding(("own", "above")), tool(
            rows[0], rows[1], "lead above any to run", rows[3], "lead not own and not above run to run", rows[5]))
        self.assertEqual(one.heeding(["own"]), tool(
            rows[0], "lead own run to old", rows[3], "lead not own run to run", rows[5]))
        self.assertEqual(one.heeding(["below"]), tool(
            rows[0], rows[3], "lead not below run to run", rows[5]))
        self.assertEqual(one.heeding(parts=["above"]), tool(
            rows[0], "lead above any to run", rows[3], "lead not above run to run", rows[5]))
        self.assertEqual(one.heeding([]), tool(rows[0], rows[3], "lead always run to run", rows[5]))
        self.assertEqual(str(one), "\n".join([*HEAD, *rows]))

    def test_heeding_takes_other_parts_as_not_the_same(self):
        place = {"above": 0, "own": 1, "below": 2}
        one = tool("lead own and not above run to old", "lead below and not own any to run", "lead not below old to old")
        for parts in ([], ["own"], ["above", "below"], ["below", "own"], ["own", "above", "below"]):
            for mark, same in itertools.product(one.marks, EIGHT):
                looked = list(same)
                for part, at in place.items():
                    looked[at] = looked[at] and part in parts
                self.assertEqual(one.heeding(parts).led(mark, same), one.led(mark, tuple(looked)))

    def test_heeding_keeps_the_promise_and_the_rest(self):
        one = near().heeding([])
        self.assertEqual((one.marks, one.told, one.parts, one.clears), (near().marks, ("run",), near().parts, True))
        self.assertEqual([str(row) for row in one.rows], ["run any to run", "join any run to run"])

    def test_heeding_a_changed_list(self):
        parts = ["own"]
        one = plain().heeding(parts)
        parts.clear()
        self.assertEqual(one, plain())
        self.assertEqual(plain().heeding(parts), plain().without(1))
        self.assertEqual(parts, [])

    def test_not_iterable(self):
        for call in (iter, list, tuple, sorted, lambda one: "x" in one, lambda one: [*one]):
            with self.assertRaises(TypeError):
                call(plain())
            with self.assertRaises(TypeError):
                call(tool())


class TestText(ToolCase):
    def test_text(self):
        self.assertEqual(str(plain()), "\n".join(LINES))
        self.assertEqual(str(near()), "\n".join(LINES).replace("parts own", "parts above below own"))
        self.assertEqual(str(Tool(["a"], [], ["own"], False, [])), "marks a\ntold\nparts own\nsend keep")
        one = Tool(["a", "b", "c"], ["c", "b"], ["own", "below"], True, [Lead([], "any", "c")])
        self.assertEqual(str(one), "marks a b c\ntold b c\nparts below own\nsend clear\nlead always any to c")

    def test_reading(self):
        one = Tool.read("\n".join(LINES))
        self.assertEqual((one.marks, one.told, one.parts), (("none", "run"), ("run",), ("own",)))
        self.assertIs(one.clears, True)
        self.assertEqual([str(row) for row in one.rows], list(LINES[4:]))
        one = Tool.read(text="marks a\ntold\nparts own\nsend keep")
        self.assertEqual((one.marks, one.told, one.clears, one.rows), (("a",), (), False, ()))

    def test_words_in_any_order(self):
        for told in itertools.permutations(["b", "c", "d"]):
            for parts in itertools.permutations(["above", "below", "own"]):
                text = f"marks a d b c\ntold {' '.join(told)}\nparts {' '.join(parts)}\nsend keep"
                one = Tool.read(text)
                self.assertEqual(str(one), "marks a d b c\ntold d b c\nparts above below own\nsend keep")

    def test_the_first_line_that_cannot_stand(self):
        good = list(LINES)
        wrong = {
            0: ["", "marks", "marks ", "mark a", "marks none  run", " marks none run", "marks none run ", "marks own",
                "marks abcde", "marks A", "Marks none run", "told run", "marks any none run", "marks none,run"],
            1: ["", "told ", "told own", "told  run", "told run ", "tell run", "told any", "told Run", "marks run"],
            2: ["", "parts ", "parts run", "parts not own", "parts own  above", "parts own ", "part own", "parts OWN",
                "parts own and above"],
            3: ["", "send", "send ", "send clear ", "send  clear", "send keep x", "clear", "keep", "send Clear"],
            4: ["", "run", "run any to", "run any to run ", "marks none run", "run any to own"],
            6: ["", "join any run to", "lead own run", "x"],
        }
        for at, lines in wrong.items():
            for line in lines:
                self.assert_no_text(at, "\n".join([*good[:at], line, *good[at + 1:]]))
        self.assert_no_text(7, "\n".join(good) + "\n")
        self.assert_no_text(0, "\n" + "\n".join(good))

    def test_two_wrong_lines(self):
        for one, other in itertools.combinations(range(len(LINES)), 2):
            lines = list(LINES)
            lines[one] = lines[other] = "x"
            self.assert_no_text(one, "\n".join(lines))

    def test_fewer_than_four_lines(self):
        for many in (1, 2, 3):
            self.assert_no_text(many, "\n".join(LINES[:many]))
            self.assert_no_text(many - 1, "\n".join([*LINES[:many - 1], "x"]))
        self.assert_no_text(0, "")
        self.assert_no_text(1, "marks none run\n")

    def test_then_the_errors_of_a_tool(self):
        for at, line, word in [(0, "marks none none", "marks"), (1, "told x", "told"), (1, "told none", "told"),
                               (1, "told run run", "told"), (2, "parts above", "parts"), (2, "parts", "parts"),
                               (2, "parts own own", "parts"), (4, "run any to x", "mark"), (4, "run x to run", "mark"),
                               (5, "lead own none to run", "blank"), (6, "join x any to here", "mark")]:
            lines = list(LINES)
            lines[at] = line
            with self.assertRaises(InvalidTool) as caught:
                Tool.read("\n".join(lines))
            self.assertEqual(caught.exception.word, word, line)
            self.assert_no_text(7, "\n".join([*lines, "x"]))

    def test_equality(self):
        texts = ["\n".join(LINES), "\n".join(LINES[:6]), "\n".join(LINES).replace("clear", "keep"),
                 "\n".join(LINES).replace("parts own", "parts above own"),
                 "\n".join(LINES).replace("told run", "told"), "\n".join(LINES).replace("none", "none")]
        for one, other in itertools.product(texts, texts):
            self.assertIs(Tool.read(one) == Tool.read(other), one == other)
            self.assertIs(Tool.read(one) != Tool.read(other), one != other)
        self.assertEqual(Tool(["a", "b", "c"], ["b", "c"], ["own", "above"], True, []),
                         Tool(("a", "b", "c"), ("c", "b"), ("above", "own"), True, ()))

    def test_equal_to_nothing_of_another_class(self):
        one = made(clears=True)
        for other in [*ANY, str(one), object()]:
            self.assertIs(one == other, False)
            self.assertIs(other == one, False)

    def test_reading_gives_back_the_tool(self):
        for marks, clears in itertools.product((["a"], ["none", "run"], ["c", "b", "a"]), (True, False)):
            for many in range(len(marks)):
                rows = [Run("any", marks[0]), Lead(["not own", "below"], "any", marks[-1]), Join(marks[0], "any", "came")]
                one = Tool(marks, marks[1:1 + many], ["below", "own"], clears, rows)
                self.assertEqual(Tool.read(str(one)), one)
                self.assertEqual(vars(Tool.read(str(one))), vars(one))


if __name__ == "__main__":
    unittest.main()
