"""[9]: editions."""

import itertools
import unittest

from ledmarks.editions import Edition, same
from ledmarks.errors import InvalidEdition, InvalidText, NoRow
from things import ANY, NAMES, NO_NAMES


class EditionCase(unittest.TestCase):
    def assert_wrong(self, at, rows):
        with self.assertRaises(InvalidEdition) as caught:
            Edition(rows)
        self.assertEqual(caught.exception.at, at, rows)

    def assert_no_text(self, at, text):
        with self.assertRaises(InvalidText) as caught:
            Edition.read(text)
        self.assertEqual(caught.exception.at, at, text)

    def assert_no_row(self, at, call):
        with self.assertRaises(NoRow) as caught:
            call(at)
        self.assertEqual(caught.exception.at, at)


class TestMaking(EditionCase):
    def test_good_rows(self):
        rows = [("a", 0), ("x", None), ("c", 1), ("a", None), ("a", 7)]
        for given in (rows, tuple(rows)):
            one = Edition(given)
            self.assertEqual(one.rows, tuple(rows))
            self.assertIs(one.rows.__class__, tuple)
            self.assertEqual((len(one), one[0], one[4]), (5, ("a", 0), ("a", 7)))
        self.assertEqual((Edition([]).rows, Edition(()).rows, len(Edition(rows=[]))), ((), (), 0))

    def test_elders(self):
        for elder in (0, 1, 9, 10, 99, 100, 10 ** 40, None):
            self.assertEqual(Edition([("a", elder)])[0], ("a", elder))
        for elder in (-1, True, False, "0", "", (), [0], (0,), Edition([])):
            self.assert_wrong(0, [("a", elder)])
            self.assert_wrong(1, [("a", 0), ("a", elder)])

    def test_contents(self):
        for name in NAMES:
            self.assertEqual(Edition([(name, None)])[0], (name, None))
        for word in [*NO_NAMES, None, 0, True, ["a"], ("a",)]:
            self.assert_wrong(0, [(word, None)])
            self.assert_wrong(2, [("a", None), ("b", 3), (word, 0)])

    def test_no_sequence(self):
        for value in ANY:
            if not isinstance(value, (list, tuple)):
                self.assert_wrong(0, value)
        self.assert_wrong(0, {("a", 0)})
        self.assert_wrong(0, {("a", 0): 1})

    def test_any_thing_in_it(self):
        for value in ANY:
            if value != ("a", 0):
                self.assert_wrong(0, [value])
                self.assert_wrong(2, [("a", 1), ("b", None), value, value])
                self.assert_wrong(1, (("a", 1), value))

    def test_no_pairs(self):
        for value in [(), ("a",), ("a", 0, 1), ["a", 0], ["a", None], "a", "a:0", (0, "a"), (("a", 0),)]:
            self.assert_wrong(0, [value])
            self.assert_wrong(1, [("a", 0), value])

    def test_each_elder_at_most_once(self):
        self.assert_wrong(1, [("a", 0), ("b", 0)])
        self.assert_wrong(3, [("a", 0), ("b", 1), ("c", None), ("d", 0), ("e", 1)])
        self.assert_wrong(2, [("a", 5), ("b", 1), ("c", 1), (0, 0)])
        self.assert_wrong(1, [("a", 5), (0, 0), ("c", 5)])
        self.assertEqual(len(Edition([("a", None), ("a", None), ("a", 1), ("a", 0)])), 4)

    def test_a_changed_list(self):
        rows = [("a", 0), ("b", None)]
        one = Edition(rows)
        rows.append(("c", 1))
        rows[0] = None
        self.assertEqual((one.rows, str(one), len(one)), ((("a", 0), ("b", None)), "a:0 b", 2))

    def test_beyond_the_limits_nothing_is_raised(self):
        self.assertEqual(len(Edition([("a", at) for at in range(12)])), 12)


class TestRows(EditionCase):
    def test_no_row(self):
        for text, many in (("-", 0), ("a", 1), ("a b c", 3)):
            one = Edition.read(text)
            for at in (-1, -many, -many - 1, many, many + 1, 10 ** 40, -10 ** 40):
                if at != 0 or many == 0:
                    self.assert_no_row(at, lambda at: one[at])
                    self.assert_no_row(at, one.frame)

    def test_frame(self):
        one = Edition.read("a:0 x c:1")
        self.assertEqual([one.frame(at) for at in range(3)], [("", "a", "x"), ("a", "x", "c"), ("x", "c", "")])
        self.assertEqual(Edition.read("b:9").frame(at=0), ("", "b", ""))
        self.assertEqual([Edition.read("a b").frame(at) for at in (0, 1)], [("", "a", "b"), ("a", "b", "")])

    def test_same(self):
        frames = list(itertools.product(["", "a", "b"], ["a", "b"], ["", "a", "b"]))
        for one, other in itertools.product(frames, frames):
            told = same(one, other)
            self.assertEqual(told, tuple(one[at] == other[at] for at in range(3)))
            self.assertIs(told.__class__, tuple)
            self.assertEqual([value.__class__ for value in told], [bool] * 3)

    def test_same_names_the_parts_in_their_order(self):
        self.assertEqual(same(("a", "b", "c"), ("a", "x", "y")), (True, False, False))
        self.assertEqual(same(("a", "b", "c"), ("x", "b", "y")), (False, True, False))
        self.assertEqual(same(one=("a", "b", "c"), other=("x", "y", "c")), (False, False, True))

    def test_nothing_is_equal_to_nothing(self):
        self.assertEqual(same(("", "a", ""), ("", "b", "")), (True, False, True))
        self.assertEqual(same(("", "a", "b"), ("b", "a", "")), (False, True, False))

    def test_not_iterable(self):
        for call in (iter, list, tuple, lambda one: ("a", None) in one, lambda one: [*one]):
            for text in ("-", "a b"):
                with self.assertRaises(TypeError):
                    call(Edition.read(text))


class TestText(EditionCase):
    def test_text(self):
        self.assertEqual(str(Edition([("a", 0), ("x", None), ("c", 1)])), "a:0 x c:1")
        self.assertEqual(str(Edition([])), "-")
        self.assertEqual(str(Edition([("a", None)])), "a")
        self.assertEqual(str(Edition([("a", 10), ("b", 99)])), "a:10 b:99")

    def test_reading(self):
        self.assertEqual(Edition.read("a:0 x c:1").rows, (("a", 0), ("x", None), ("c", 1)))
        self.assertEqual(Edition.read("-").rows, ())
        self.assertEqual(Edition.read(text="abcd").rows, (("abcd", None),))
        self.assertEqual(Edition.read("a:10 b:99 c:0").rows, (("a", 10), ("b", 99), ("c", 0)))
        self.assertEqual(Edition.read("a a:9 a").rows, (("a", None), ("a", 9), ("a", None)))

    def test_reading_gives_back_the_edition(self):
        words = ["a", "b:0", "c:1", "dd", "e:12"]
        for many in range(1, 6):
            for chosen in itertools.permutations(words, many):
                self.assertEqual(str(Edition.read(" ".join(chosen))), " ".join(chosen))
        self.assertEqual(str(Edition.read(str(Edition([])))), "-")

    def test_words_that_are_no_row(self):
        for word in ["", "-", ":", "a:", ":0", "a:00", "a:01", "a:100", "a:x", "a:-1", "a:+1", "a:1:2", "a:0:", "a::0",
                     "a:1_0", "a:\u00b2", "a:\u0661", "A", "abcde", "own", "any:0", "to", "a\n", "a:0\n", "a,b", "a;",
                     "a:None", "0", "0:a", "--"]:
            if word != "-":
                self.assert_no_text(0, word)
            self.assert_no_text(0, word + " a")
            self.assert_no_text(1, "a " + word)
            self.assert_no_text(2, "a b:0 " + word + " A " + word)

    def test_spaces(self):
        self.assert_no_text(0, "")
        self.assert_no_text(0, " ")
        self.assert_no_text(0, " a")
        self.assert_no_text(1, "a ")
        self.assert_no_text(1, "a  b")
        self.assert_no_text(0, "a\tb")
        self.assert_no_text(0, "- ")
        self.assert_no_text(0, " -")

    def test_an_elder_again(self):
        self.assert_no_text(1, "a:0 b:0")
        self.assert_no_text(2, "a:0 b c:0 d:0 E")
        self.assert_no_text(1, "a:0 E c:0")
        self.assert_no_text(3, "a:12 b:1 c:2 d:12")

    def test_equality(self):
        texts = ["-", "a", "b", "a b", "b a", "a:0", "a:1", "a:0 b", "a b:0"]
        for one, other in itertools.product(texts, texts):
            self.assertIs(Edition.read(one) == Edition.read(other), one == other)
            self.assertIs(Edition.read(one) != Edition.read(other), one != other)
        self.assertEqual(Edition([("a", 0)]), Edition((("a", 0),)))

    def test_equal_to_nothing_of_another_class(self):
        one = Edition([("b", 0)])
        for other in [*ANY, str(one), one.rows, list(one.rows), object()]:
            self.assertIs(one == other, False)
            self.assertIs(other == one, False)


if __name__ == "__main__":
    unittest.main()
