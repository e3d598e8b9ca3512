"""[5]: the rows of tools."""

import itertools
import unittest

from ledmarks.errors import InvalidRow, InvalidText
from ledmarks.rows import Join, Lead, Row, Run
from things import ANY, NAMES, NO_NAMES, OBJECTS, TAKEN

TESTS = ["above", "below", "own", "not above", "not below", "not own"]


def all_tests():
    """All lists of tests, each part in them at most once, in each order."""
    for many in range(4):
        for parts in itertools.permutations(["above", "below", "own"], many):
            for signs in itertools.product(["", "not "], repeat=many):
                yield [sign + part for sign, part in zip(signs, parts)]


def some_rows():
    rows = [Run("any", "run"), Run("a", "a"), Run("a", "b"), Join("any", "any", "here"), Join("a", "b", "came"),
            Join("a", "any", "a"), Join("any", "b", "abcd")]
    for tests in all_tests():
        rows.append(Lead(tests, "any", "run"))
        rows.append(Lead(tuple(tests), "run", "old"))
    return rows


class RowCase(unittest.TestCase):
    def assert_wrong(self, word, make, *arguments):
        with self.assertRaises(InvalidRow) as caught:
            make(*arguments)
        self.assertEqual(caught.exception.word, word, arguments)

    def assert_no_text(self, text):
        with self.assertRaises(InvalidText) as caught:
            Row.read(text)
        self.assertEqual(caught.exception.at, 0, text)


class TestRun(RowCase):
    def test_attributes_text_reading(self):
        row = Run("any", "run")
        self.assertEqual((row.old, row.then, str(row)), ("any", "run", "run any to run"))
        self.assertIsInstance(row, Row)
        row = Row.read("run abcd to z")
        self.assertIs(row.__class__, Run)
        self.assertEqual((row.old, row.then, str(row)), ("abcd", "z", "run abcd to z"))

    def test_arguments_by_name(self):
        self.assertEqual(str(Run(then="b", old="a")), "run a to b")

    def test_names(self):
        for name in NAMES:
            self.assertEqual((Run(name, "a").old, Run("a", name).then), (name, name))
        for word in NO_NAMES:
            self.assert_wrong("then", Run, "a", word)
            if word != "any":
                self.assert_wrong("old", Run, word, "a")

    def test_any_value(self):
        for value in ANY:
            if not (isinstance(value, str) and value in ["a", "abcd"]):
                self.assert_wrong("then", Run, "a", value)
                self.assert_wrong("then", Run, "any", value)
                if value != "any":
                    self.assert_wrong("old", Run, value, "a")
                    self.assert_wrong("old", Run, value, value)

    def test_reading_wrong_texts(self):
        for text in ["run", "run any", "run any to", "run any to run x", "run any to  run", " run any to run",
                     "run any to run ", "run any run", "run any and run", "Run any to run", "run any to any",
                     "run own to run", "run any to own", "run to to run", "run any to abcde", "runs any to run",
                     "run any to run\n", "run any\tto run", "run any TO run", "run  to run", "run any to "]:
            self.assert_no_text(text)


class TestLead(RowCase):
    def test_attributes_text_reading(self):
        row = Lead(["own", "not above"], "run", "old")
        self.assertEqual((row.tests, row.old, row.then), (("own", "not above"), "run", "old"))
        self.assertEqual(str(row), "lead own and not above run to old")
        row = Lead((), "any", "old")
        self.assertEqual((row.tests, row.old, row.then, str(row)), ((), "any", "old", "lead always any to old"))
        self.assertIsInstance(row, Row)
        self.assertIs(Row.read("lead always any to old").__class__, Lead)
        self.assertEqual(Row.read("lead always any to old").tests, ())
        self.assertEqual(Row.read("lead not below run to old").tests, ("not below",))

    def test_all_tests(self):
        for tests in all_tests():
            for given in (tests, tuple(tests)):
                row = Lead(given, "any", "run")
                text = "lead " + (" and ".join(tests) if tests else "always") + " any to run"
                self.assertEqual((row.tests, str(row)), (tuple(tests), text))
            read = Row.read(text)
            self.assertIs(read.__class__, Lead)
            self.assertEqual((read.tests, read.old, read.then, str(read)), (tuple(tests), "any", "run", text))
            self.assertEqual(read, row)

    def test_parts_at_most_once(self):
        for one, other in itertools.product(TESTS, TESTS):
            if one.split(" ")[-1] == other.split(" ")[-1]:
                self.assert_wrong("tests", Lead, [one, other], "a", "a")
                self.assert_wrong("tests", Lead, (one, "above", "below", "own", other), "a", "a")
                self.assert_no_text(f"lead {one} and {other} a to a")
            else:
                self.assertEqual(Lead([one, other], "a", "a").tests, (one, other))

    def test_wrong_tests(self):
        for tests in ["own", "", None, 0, True, {"own"}, {}, ["always"], [""], ["not"], ["not  own"], ["own "],
                      [" own"], ["notown"], ["not not own"], ["own", "any"], ["own and above"], [["own"]], [("own",)],
                      ["own", None], [0], [True], ["OWN"], ["aboves"], ["own", ["above"]], [Run("a", "a")]]:
            self.assert_wrong("tests", Lead, tests, "a", "a")

    def test_first_wrong_argument(self):
        self.assert_wrong("tests", Lead, ["x"], "own", "own")
        self.assert_wrong("tests", Lead, ["x"], "a", "own")
        self.assert_wrong("tests", Lead, ["x"], "own", "a")
        self.assert_wrong("old", Lead, ["own"], "own", "own")
        self.assert_wrong("old", Lead, ["own"], "own", "a")
        self.assert_wrong("then", Lead, ["own"], "a", "own")

    def test_any_value(self):
        for value in ANY:
            good = isinstance(value, str) and value in ["a", "abcd"]
            if not (isinstance(value, (list, tuple)) and list(value) in [[], ["own"]]):
                self.assert_wrong("tests", Lead, value, "a", "a")
            if not good:
                self.assert_wrong("then", Lead, [], "any", value)
                if value != "any":
                    self.assert_wrong("old", Lead, [], value, "a")

    def test_names(self):
        for name in NAMES:
            row = Lead([], name, name)
            self.assertEqual((row.old, row.then), (name, name))
        for word in TAKEN:
            self.assert_wrong("then", Lead, [], "a", word)

    def test_arguments_by_name(self):
        self.assertEqual(str(Lead(then="b", tests=["own"], old="a")), "lead own a to b")

    def test_a_changed_list(self):
        tests = ["own"]
        row = Lead(tests, "run", "run")
        tests.append("above")
        tests[0] = "below"
        self.assertEqual((row.tests, str(row)), (("own",), "lead own run to run"))
        self.assertEqual(tests, ["below", "above"])
        self.assertEqual(row, Lead(["own"], "run", "run"))

    def test_reading_wrong_texts(self):
        for text in ["lead", "lead a to b", "lead to b", "lead own run old", "lead own run and old", "lead always",
                     "lead own above run to old", "lead own and run to old", "lead and own run to old",
                     "lead own and and above run to old", "lead own  and above run to old", "lead and run to old",
                     "lead always and own run to old", "lead own and always run to old", "lead not always run to old",
                     "lead not run to old", "lead not not own run to old", "lead own and above and run to old",
                     "lead own run to old ", "lead  own run to old", "lead own run to old x", "lead own run to",
                     "lead own own run to old", "lead own and own run to old", "lead own or above run to old",
                     "lead  run to old", "lead always  to old", "lead own own to old", "lead own run to any",
                     "lead own to to old", "lead any run to old", "lead above,own run to old", "LEAD own run to old",
                     "lead own run to\nold", "lead always always run to old"]:
            self.assert_no_text(text)


class TestJoin(RowCase):
    def test_attributes_text_reading(self):
        row = Join("run", "any", "here")
        self.assertEqual((row.here, row.came, row.then, str(row)), ("run", "any", "here", "join run any to here"))
        self.assertIsInstance(row, Row)
        row = Row.read("join any run to came")
        self.assertIs(row.__class__, Join)
        self.assertEqual((row.here, row.came, row.then), ("any", "run", "came"))
        self.assertEqual(Row.read("join a b to c").then, "c")

    def test_first_wrong_argument(self):
        self.assert_wrong("here", Join, "own", "own", "own")
        self.assert_wrong("here", Join, "own", "a", "a")
        self.assert_wrong("came", Join, "a", "own", "own")
        self.assert_wrong("came", Join, "a", "own", "a")
        self.assert_wrong("then", Join, "a", "a", "own")

    def test_here_and_came_stand_in_the_third_place_alone(self):
        for word in ["here", "came"]:
            self.assert_wrong("here", Join, word, "a", "a")
            self.assert_wrong("came", Join, "a", word, "a")
            self.assertEqual(Join("a", "a", word).then, word)
            self.assert_no_text(f"join {word} a to a")
            self.assert_no_text(f"join a {word} to a")
        self.assert_wrong("then", Join, "a", "a", "any")

    def test_any_value(self):
        for value in ANY:
            if isinstance(value, str) and value in ["a", "abcd"]:
                continue
            if value != "any":
                self.assert_wrong("here", Join, value, "a", "a")
                self.assert_wrong("came", Join, "any", value, "a")
            if value not in ["here", "came"]:
                self.assert_wrong("then", Join, "any", "any", value)

    def test_names(self):
        for name in NAMES:
            row = Join(name, name, name)
            self.assertEqual((row.here, row.came, row.then), (name, name, name))

    def test_arguments_by_name(self):
        self.assertEqual(str(Join(then="came", came="b", here="a")), "join a b to came")

    def test_reading_wrong_texts(self):
        for text in ["join", "join a b", "join a b to", "join a to b", "join a b c to d", "join a b to c d",
                     "join a b and c", "join a b to any", "join  b to c", "join a  b to c", "join a b to c ",
                     " join a b to c", "join a own to c", "join not b to c", "joins a b to c", "join a b to own"]:
            self.assert_no_text(text)


class TestRow(RowCase):
    def test_reading_gives_back_each_row(self):
        for row in some_rows():
            read = Row.read(text=str(row))
            self.assertEqual(str(read), str(row))
            self.assertIs(read.__class__, row.__class__)
            self.assertEqual(vars(read), vars(row))

    def test_no_row_at_all(self):
        for text in ["", " ", "\n", "x", "run any to run\nrun any to run", "marks a b", "told", "always", "to"]:
            self.assert_no_text(text)

    def test_a_text_with_one_character_less_is_another_row_or_none(self):
        for row in some_rows():
            text = str(row)
            for at in range(len(text)):
                shorter = text[:at] + text[at + 1:]
                try:
                    self.assertEqual(str(Row.read(shorter)), shorter)
                except InvalidText as error:
                    self.assertEqual(error.at, 0)

    def test_equal_by_the_text(self):
        rows = some_rows()
        for one, other in itertools.product(rows, rows):
            self.assertIs(one == other, str(one) == str(other))
            self.assertIs(one != other, str(one) != str(other))
        self.assertEqual(Lead(["own"], "a", "b"), Lead(("own",), "a", "b"))
        self.assertNotEqual(Lead(["own", "above"], "a", "b"), Lead(["above", "own"], "a", "b"))

    def test_equal_to_nothing_of_another_class(self):
        for row in (Run("any", "b"), Lead([], "a", "b"), Join("a", "b", "here")):
            for other in [*[value for value in ANY if value not in OBJECTS[:3]], str(row), object()]:
                self.assertIs(row == other, False)
                self.assertIs(other == row, False)

    def test_not_iterable(self):
        for row in some_rows()[:12]:
            with self.assertRaises(TypeError):
                iter(row)
            with self.assertRaises(TypeError):
                list(row)


if __name__ == "__main__":
    unittest.main()
