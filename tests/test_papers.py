"""[17]: papers."""

import itertools
import random
import unittest

from ledmarks.deciding import faults, happens, lists
from ledmarks.errors import InvalidFault
from ledmarks.papers import paper, paper_holds
from ledmarks.tools import Tool
from models import some_tool, wanted_holds
from things import ANY, FAULTS, last, near, nested, plain

NONE, RUN = ("none", False), ("run", True)
RIGHT = ((NONE, RUN), (NONE, RUN))


class PaperCase(unittest.TestCase):
    def assert_holds(self, wanted, value, one=None, fault="false"):
        told = paper_holds(plain() if one is None else one, fault, value)
        self.assertIs(told, wanted, (value, fault))


class TestPaper(PaperCase):
    def test_where_a_fault_does_not_happen(self):
        for one in (plain(), near(), last()):
            for fault in FAULTS:
                told = paper(one, fault)
                if happens(one, fault):
                    self.assertIsNone(told)
                else:
                    self.assertIs(paper_holds(one, fault, told), True)
                    self.assertEqual([told.__class__, *[part.__class__ for part in told]], [tuple] * 3)
        self.assertEqual([paper(near(), fault) is None for fault in FAULTS], [False, True, False, False, False])

    def test_any_tools(self):
        seen = {True: 0, False: 0}
        for seed in range(200):
            dice = random.Random(seed)
            one = some_tool(dice, dice.randint(1, 5), dice.choice([4, 16]))
            for fault in FAULTS:
                told = paper(tool=one, fault=fault)
                self.assertIs(told is None, fault in faults(one))
                seen[told is None] += 1
                self.assert_holds(told is not None, lists(one), one, fault)
                if told is not None:
                    self.assertTrue(wanted_holds(one, fault, *told))
                    self.assert_holds(True, told, one, fault)
        self.assertGreater(min(seen.values()), 100)

    def test_wrong_faults(self):
        for value in [*ANY, "False", ["false"]]:
            for one in (plain(), near()):
                with self.assertRaises(InvalidFault):
                    paper(one, value)
                with self.assertRaises(InvalidFault):
                    paper_holds(one, value, lists(one))
                with self.assertRaises(InvalidFault):
                    paper_holds(one, value, None)


class TestHolds(PaperCase):
    def test_the_example(self):
        self.assert_holds(True, lists(plain()))
        self.assert_holds(False, lists(near()), near())
        self.assertIsNone(paper(near(), "false"))
        self.assert_holds(False, ((), ()))
        self.assertIs(paper_holds(tool=plain(), fault="false", value=lists(plain())), True)

    def test_any_value(self):
        for value in ANY:
            for fault in FAULTS:
                self.assert_holds(False, value, fault=fault)
            self.assert_holds(False, (value, RIGHT[1]))
            self.assert_holds(False, (RIGHT[0], value))
            self.assert_holds(False, (value, value))
            self.assert_holds(False, (*RIGHT, value))
            self.assert_holds(False, (RIGHT[0], (*RIGHT[1], value)))
            self.assert_holds(False, ((value, *RIGHT[0]), RIGHT[1]))
            self.assert_holds(False, (RIGHT[0], (*RIGHT[1], (value, True))))
            if not isinstance(value, bool):
                self.assert_holds(False, (RIGHT[0], (*RIGHT[1], ("none", value))))
                self.assert_holds(False, ((("run", value), *RIGHT[0]), RIGHT[1]))
        self.assert_holds(False, nested(RIGHT, 2))

    def test_the_form(self):
        (machines, head) = RIGHT
        self.assert_holds(True, RIGHT)
        for value in [[machines, head], (list(machines), head), (machines, list(head)), (machines,), (), machines,
                      (machines, head, head), (machines, head, ()), {machines: head},
                      ((list(NONE), RUN), head), (machines, (NONE, list(RUN))), (machines, (NONE, RUN, ())),
                      (machines, (NONE, RUN, ("run",))), (machines, (NONE, RUN, ("run", True, True))),
                      (machines, (NONE, RUN, "run")), (machines, (NONE, RUN, "ab")), ((NONE, RUN, None), head)]:
            self.assert_holds(False, value)

    def test_bools_and_numbers(self):
        self.assert_holds(False, ((("none", 0), RUN), RIGHT[1]))
        self.assert_holds(False, (RIGHT[0], (NONE, ("run", 1))))
        self.assert_holds(False, (RIGHT[0], (NONE, RUN, ("run", 1))))
        self.assert_holds(False, ((NONE, RUN, ("none", 0)), RIGHT[1]))
        self.assert_holds(False, (RIGHT[0], (NONE, RUN, ("none", None))))

    def test_other_marks(self):
        for mark in ("x", "any", "here", "came", "old", "", "Run", "none "):
            self.assert_holds(False, (RIGHT[0], (NONE, RUN, (mark, True))))
            self.assert_holds(False, ((NONE, RUN, (mark, False)), RIGHT[1]))

    def test_order_and_pairs_that_are_there_twice(self):
        for machines, head in itertools.product(([NONE, RUN], [RUN, NONE], [RUN, NONE, RUN], [NONE] * 3 + [RUN]), repeat=2):
            for fault in FAULTS:
                self.assert_holds(True, (tuple(machines), tuple(head)), fault=fault)

    def test_pairs_that_are_left_out(self):
        self.assert_holds(False, ((NONE,), RIGHT[1]))
        self.assert_holds(False, ((RUN,), RIGHT[1]))
        self.assert_holds(False, (RIGHT[0], (NONE,)))
        self.assert_holds(False, (RIGHT[0], (RUN,)))
        self.assert_holds(False, ((), RIGHT[1]))
        self.assert_holds(False, (RIGHT[0], ()))
        # Nothing can be reached but by these pairs: each one that is left out spoils the paper.
        for one in (plain(), near(), last(), Tool.read("marks n r o\ntold o\nparts own\nsend keep\nrun n to r\nrun r to o"
                                                       "\nlead not own r to o\njoin any any to came")):
            machines, head = lists(one)
            for fault in FAULTS:
                right = paper_holds(one, fault, (machines, head))
                self.assertIs(right, not happens(one, fault))
                for at in range(len(machines)):
                    self.assert_holds(False, (machines[:at] + machines[at + 1:], head), one, fault)
                for at in range(len(head)):
                    self.assert_holds(False, (machines, head[:at] + head[at + 1:]), one, fault)

    def test_more_than_can_be_reached(self):
        # (run, not known) in the machine's list would be heard; in the head's it is false at once.
        self.assert_holds(False, ((NONE, RUN, ("run", False)), RIGHT[1]))
        self.assert_holds(False, (RIGHT[0], (NONE, RUN, ("run", False))))
        more = ((NONE, RUN, ("run", False)), (NONE, RUN, ("run", False)))
        self.assert_holds(False, more, fault="false")
        for fault in ("fallen", "missed", "order", "twice"):
            self.assert_holds(True, more, fault=fault)
        # (none, known) is missed at once; in the machine's list it is by a hearing.
        more = (RIGHT[0], (NONE, RUN, ("none", True)))
        self.assert_holds(False, more, fault="missed")
        self.assert_holds(True, more, fault="false")
        self.assert_holds(False, ((NONE, RUN, ("none", True)), RIGHT[1]), fault="false")
        self.assert_holds(True, ((NONE, RUN, ("none", True)), more[1]), fault="false")

    def test_what_can_come_is_told_by_the_machines_of_the_paper(self):
        one = Tool.read("marks none run old\ntold run old\nparts own\nsend keep\nrun any to run\nlead own run to run"
                        "\nlead own old to old\njoin none any to came\njoin run old to none\njoin old run to none")
        right = lists(one)
        self.assertEqual(faults(one), ())
        marks = [("none", False), ("none", True), ("old", True), ("run", True)]
        for fault in FAULTS:
            self.assert_holds(True, right, one, fault)
            # No machine can have the old mark; a paper by which one could says less.
            self.assert_holds(fault == "false", ((*right[0], ("old", True)), tuple(marks)), one, fault)

    def test_as_the_document_says_it(self):
        seen = {True: 0, False: 0}
        for seed in range(250):
            dice = random.Random(seed)
            one = some_tool(dice, dice.randint(1, 3))
            pairs = list(itertools.product(one.marks, (False, True)))
            right = lists(one)
            for _ in range(6):
                value = tuple(tuple(pair for pair in pairs if (pair in part) != (dice.random() < 0.1)) for part in right)
                for fault in FAULTS:
                    wanted = wanted_holds(one, fault, *value)
                    seen[wanted] += 1
                    self.assert_holds(wanted, value, one, fault)
        self.assertGreater(min(seen.values()), 500)


if __name__ == "__main__":
    unittest.main()
