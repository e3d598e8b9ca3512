"""[18]: what must be kept, and which rows are needless, repair, or can be exchanged."""

import itertools
import random
import unittest

from ledmarks.errors import InvalidFault
from ledmarks.keeping import least_parts, needless, repairs, swaps
from ledmarks.rows import Run
from ledmarks.tools import Tool
from models import full_tool, some_tool, wanted_happening, wanted_parting
from things import ANY, FAULTS, LINES, last, near, plain, third

PARTS = ["above", "below", "own"]


def tool(*rows, marks="none run old", told="run old", parts="own", send="keep"):
    return Tool.read("\n".join([f"marks {marks}", f"told {told}".strip(), f"parts {parts}", f"send {send}", *rows]))


def some_near(dice):
    """Any tool that could be right for some parts."""
    tests = [dice.choice(["", "", "", "not "]) + part for part in PARTS if dice.random() < 0.7]
    parts = ["own", *[part for part in PARTS[:2] if dice.random() < 0.5]]
    row = dice.choice(["lead always run to run", "lead own old to run", "join run old to none", "run old to old"])
    return tool("run any to run", f"lead {' and '.join(tests) or 'always'} any to run", row, "join any run to run",
                parts=" ".join(parts))


def some_wanted(dice):
    return [dice.choice(FAULTS) for _ in range(dice.randint(0, 3))]


def wanted_least(one, wanted):
    for many in range(4):
        for parts in itertools.combinations(PARTS, many):
            if not wanted_happening(one.heeding(parts), wanted):
                return parts
    return None


def exchanged(one, at):
    rows = list(one.rows)
    rows[at], rows[at + 1] = rows[at + 1], rows[at]
    return Tool(one.marks, one.told, one.parts, one.clears, rows)


class TestWanted(unittest.TestCase):
    def test_no_faults(self):
        for call in (least_parts, needless, repairs):
            for value in [*ANY, "False", "twice ", ("twice",), ["false"]]:
                for wanted in ([value], (value,), ["false", value], [value, "false"], ["missed", value, "twice"]):
                    for one in (plain(), tool()):
                        with self.assertRaises(InvalidFault):
                            call(one, wanted)

    def test_lists_and_tuples_by_name(self):
        for call in (least_parts, needless, repairs):
            for wanted in (["false", "missed"], ["missed", "false", "missed"]):
                copy = list(wanted)
                self.assertEqual(call(near(), wanted), call(wanted=tuple(wanted), tool=near()))
                self.assertEqual(wanted, copy)

    def test_nothing_wanted(self):
        self.assertEqual(least_parts(near(), []), ())
        self.assertEqual(needless(near(), ()), (0, 1, 2))
        self.assertEqual(repairs(near(), []), (0, 1, 2))


class TestLeastParts(unittest.TestCase):
    def test_the_examples(self):
        self.assertEqual(least_parts(plain(), ["fallen", "false"]), ("own",))
        self.assertEqual(least_parts(near(), ["false"]), ())
        self.assertIsNone(least_parts(near(), ["fallen", "false"]))

    def test_each_number_of_parts(self):
        rows = ["run any to run", "join any run to run"]
        wanted = ["fallen", "false"]
        self.assertEqual(least_parts(tool(*rows, "lead always any to run"), ["fallen"]), ())
        self.assertEqual(least_parts(tool(*rows, "lead own any to run"), wanted), ("own",))
        one = tool(*rows, "lead own and above any to run", parts="own above")
        self.assertEqual(least_parts(one, wanted), ("above", "own"))
        one = tool(*rows, "lead own and below any to run", parts="own below")
        self.assertEqual(least_parts(one, wanted), ("below", "own"))
        one = tool(*rows, "lead own and below and above any to run", parts="own below above")
        self.assertEqual(least_parts(one, wanted), ("above", "below", "own"))
        self.assertIsNone(least_parts(tool(*rows, "lead own and above any to run"), wanted))

    def test_the_first_of_several(self):
        rows = ["run any to run", "join any run to run", "lead always old to none"]
        one = tool(*rows, "lead above any to run", "lead below any to run", "lead own any to run", told="run",
                   parts="above below own")
        self.assertEqual(least_parts(one, ["fallen"]), ("above",))
        one = tool(*rows, "lead below any to run", "lead own any to run", told="run", parts="above below own")
        self.assertEqual(least_parts(one, ["fallen"]), ("below",))
        rows = ["run any to run", "join any run to run"]
        pairs = [("above", "below"), ("above", "own"), ("below", "own")]
        for at in range(3):
            leads = [f"lead {some} and {more} any to run" for some, more in pairs[at:]]
            for some in (leads, leads[::-1]):
                self.assertEqual(least_parts(tool(*rows, *some, parts="above below own"), ["fallen"]), pairs[at])

    def test_what_is_not_kept_cannot_be_looked_at(self):
        # Without the row above, `not above` holds always.
        one = tool("run any to run", "join any run to run", "lead not above any to run")
        self.assertEqual(least_parts(one, ["fallen"]), ())
        self.assertIsNone(least_parts(one, ["false"]))

    def test_nothing_helps(self):
        self.assertIsNone(least_parts(last(), ["order"]))
        self.assertIsNone(least_parts(last(), ["twice", "order"]))
        self.assertEqual(least_parts(last(), ["twice"]), ())
        self.assertEqual(least_parts(tool(), ["twice", "order", "false", "fallen"]), ())
        self.assertIsNone(least_parts(tool(), ["missed"]))

    def test_any_tools(self):
        seen = {}
        for seed in range(120):
            dice = random.Random(seed)
            one = some_near(dice) if seed % 2 else some_tool(dice, dice.randint(1, 4), dice.choice([4, 10]))
            wanted = some_wanted(dice)
            found = least_parts(one, wanted)
            self.assertEqual(found, wanted_least(one, wanted), (str(one), wanted))
            self.assertIn(found.__class__, (tuple, None.__class__))
            seen[found] = seen.get(found, 0) + 1
        self.assertGreater(len(seen), 3)


class TestRows(unittest.TestCase):
    def test_the_example(self):
        self.assertEqual(needless(plain(), ["false"]), (0, 1, 2))

    def test_needless(self):
        self.assertEqual(needless(plain(), FAULTS), ())
        self.assertEqual(needless(plain(), ["fallen", "missed"]), ())
        self.assertEqual(needless(plain(), ["fallen"]), (0, 2))
        twice = Tool.read("\n".join([*LINES, *LINES[4:]]))
        self.assertEqual(needless(twice, FAULTS), (0, 1, 2, 3, 4, 5))
        # The same ones: a fault that comes, or one that goes, counts.
        self.assertEqual(needless(near(), ["false"]), ())
        self.assertEqual(needless(last(), ["order"]), (1,))
        self.assertEqual(needless(last(), ["missed", "twice"]), (0, 1, 2))
        self.assertEqual(needless(tool(), FAULTS), ())

    def test_repairs(self):
        self.assertEqual(repairs(near(), ["false"]), (0, 1, 2))
        self.assertEqual(repairs(near(), ["false", "missed"]), ())
        self.assertEqual(repairs(last(), ["order"]), (0, 2))
        self.assertEqual(repairs(last(), ["order", "fallen"]), (0, 2))
        self.assertEqual(repairs(last(), FAULTS), ())
        self.assertEqual(repairs(plain(), ["false"]), (0, 1, 2))
        self.assertEqual(repairs(tool(), ["false"]), ())
        worse = Tool.read("\n".join([*LINES[:4], "lead not own run to run", *LINES[4:]]))
        self.assertEqual(repairs(worse, ["false"]), (0, 1, 3))
        self.assertEqual(repairs(worse, FAULTS), (0,))

    def test_any_tools(self):
        seen = set()
        for seed in range(60):
            dice = random.Random(seed)
            one = some_near(dice) if seed % 2 else some_tool(dice, dice.randint(1, 4), dice.choice([4, 8]))
            wanted = some_wanted(dice)
            now = wanted_happening(one, wanted)
            then = [wanted_happening(one.without(at), wanted) for at in range(len(one))]
            found = (needless(one, wanted), repairs(one, wanted))
            self.assertEqual(found[0], tuple(at for at, some in enumerate(then) if some == now))
            self.assertEqual(found[1], tuple(at for at, some in enumerate(then) if not some))
            seen.add((bool(found[0]), len(found[0]) == len(one), bool(found[1]), len(found[1]) == len(one)))
        self.assertGreater(len(seen), 4)


class TestSwaps(unittest.TestCase):
    def test_rows_of_unlike_kinds(self):
        self.assertEqual(swaps(plain()), (0, 1))
        self.assertEqual(swaps(last()), (0, 1))
        self.assertEqual(swaps(third()), (0, 1))

    def test_few_rows(self):
        self.assertEqual(swaps(tool()), ())
        self.assertEqual(swaps(tool("run any to run")), ())

    def test_rows_of_the_same_kind(self):
        rows = ["lead own any to run", "join any any to came"]
        self.assertEqual(swaps(tool("run none to run", "run any to none", *rows)), (1, 2))
        self.assertEqual(swaps(tool("run none to run", "run run to none", *rows)), (0, 1, 2))
        self.assertEqual(swaps(tool("run none to run", "run any to old", *rows)), (0, 1, 2))
        self.assertEqual(swaps(tool("run any to run", "join none any to came", "join any none to none")), (0, 1))
        self.assertEqual(swaps(tool("run any to run", "join none any to came", "join any run to here")), (0,))
        self.assertEqual(swaps(tool("run any to run", "join none any to here", "join any run to run")), (0,))
        self.assertEqual(swaps(tool("lead own any to run", "lead above any to none", "run any to run",
                                    "join any any to came")), (1, 2))
        self.assertEqual(swaps(tool("lead own any to run", "lead not own any to none", "run any to run",
                                    "join any any to came")), (0, 1, 2))

    def test_exchanged_rows_that_make_unlike_marks_but_tell_the_same(self):
        rows = ["run any to run", "run any to old", "lead own any to run", "join none any to came"]
        self.assertEqual(swaps(tool(*rows)), (0, 1, 2))
        self.assertEqual(swaps(tool(*rows, told="run")), (1, 2))

    def test_any_tools(self):
        seen = {True: 0, False: 0}
        for seed in range(80):
            dice = random.Random(seed)
            one = some_tool(dice, 3, 16, 0.5) if seed % 2 else full_tool(dice, dice.randint(1, 4))
            if len(one) > 16:
                one = Tool(one.marks, one.told, one.parts, one.clears, one.rows[:16])
            found = swaps(tool=one)
            self.assertIs(found.__class__, tuple)
            for at in range(len(one) - 1):
                wanted = wanted_parting(one, exchanged(one, at)) is None
                self.assertIs(at in found, wanted, (str(one), at))
                seen[wanted] += 1
            self.assertEqual(found, tuple(sorted(set(found) & set(range(max(0, len(one) - 1))))))
        self.assertGreater(min(seen.values()), 15)

    def test_equal_rows(self):
        self.assertEqual(swaps(Tool(["a", "b"], ["b"], ["own"], True, [Run("any", "b")] * 16)), tuple(range(15)))


if __name__ == "__main__":
    unittest.main()
