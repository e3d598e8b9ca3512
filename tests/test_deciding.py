"""[15], [16]: what is decided."""

import random
import unittest

from ledmarks.deciding import faults, fewest, happens, lists, story
from ledmarks.errors import InvalidFault
from ledmarks.runs import play
from ledmarks.stories import Story
from ledmarks.tools import Tool
from models import World, some_story, some_tool, wanted_fewest, wanted_lists
from things import ANY, FAULTS, LINES, hearings, last, near, plain

# Four hearings make a mark that is told; the fifth one takes it away.
CLIMB = ["marks none a b c d", "told d", "parts own", "send keep", "run none to a", "lead own a to a",
         "join none a to a", "join a a to b", "join b a to c", "join c a to d", "lead own d to d", "join d a to none"]


def tool(*rows, told="run old", parts="own", send="keep"):
    return Tool.read("\n".join(["marks none run old", f"told {told}".strip(), f"parts {parts}", f"send {send}", *rows]))


class DecidingCase(unittest.TestCase):
    def assert_fault(self, one, fault, many):
        """The fault happens by so many hearings, as the story shows that is told; or not at all."""
        self.assertIs(happens(one, fault), many is not None, (str(one), fault))
        self.assertEqual(fewest(one, fault), many, (str(one), fault))
        self.assertIs(fault in faults(one), many is not None)
        told = story(one, fault)
        if many is None:
            self.assertIsNone(told)
            return
        self.assertIsInstance(told, Story)
        world = World(one, told)
        self.assertIn(fault, {word for word, _ in world.now}, (str(one), fault, str(told)))
        self.assertEqual((hearings(told), fewest(one, fault).__class__), (many, int))
        self.assertIn(fault, [word for word, _ in play(one, told).now])

    def assert_faults(self, one, **wanted):
        for fault in FAULTS:
            self.assert_fault(one, fault, wanted.get(fault))
        self.assertEqual(faults(one), tuple(sorted(wanted)))


class TestFaults(DecidingCase):
    def test_tools_of_the_document(self):
        self.assert_faults(plain())
        self.assert_faults(near(), false=1)
        self.assert_faults(last(), fallen=2, missed=2, order=0)

    def test_no_rows(self):
        self.assert_faults(tool(), missed=1)
        self.assert_faults(Tool.read("marks none\ntold\nparts own\nsend clear"), missed=1)

    def test_fallen(self):
        # By an edit with the same own content; by a hearing; or not at all.
        rows = ["run any to run", "lead own and above run to run", "join any run to run"]
        self.assert_fault(tool(*rows), "fallen", 1)
        self.assert_fault(tool(*rows, parts="own above"), "fallen", None)
        self.assert_fault(tool(*rows, parts="above below own"), "fallen", None)
        self.assert_fault(tool(*rows, parts="own below"), "fallen", 1)
        self.assert_fault(tool("run any to run", "lead always any to run", "join none any to came"), "fallen", None)
        rows = ["run any to run", "lead own any to run", "join none any to came"]
        self.assert_fault(tool(*rows, "join run run to none"), "fallen", 2)
        self.assert_fault(tool(*rows, "join run old to none"), "fallen", None)
        self.assert_fault(tool(*rows, "join run run to old"), "fallen", None)
        self.assert_fault(tool(*rows, "join run run to old", told="run"), "fallen", 2)
        self.assert_fault(tool(*rows, "join run run to old", "join old old to none"), "fallen", None)
        self.assert_fault(tool(*rows, "join run run to old", "join old run to none"), "fallen", 3)

    def test_false(self):
        self.assert_fault(tool("join none none to run"), "false", 1)
        self.assert_fault(tool("join any any to here"), "false", None)
        rows = ["run any to run", "join any run to run"]
        self.assert_fault(tool(*rows, "lead own run to run"), "false", None)
        self.assert_fault(tool(*rows, "lead always run to run"), "false", 1)
        self.assert_fault(tool(*rows, "lead not own run to run"), "false", 1)
        self.assert_fault(tool(*rows, "lead own and above run to run", parts="own above"), "false", None)
        self.assert_fault(tool(*rows, "lead own run to run", parts="own above"), "false", 1)
        self.assert_fault(tool(*rows, "lead own and above run to run", parts="own above below"), "false", 1)
        self.assert_fault(tool(*rows, "lead own and above and below run to run", parts="own above below"), "false", None)
        # An old mark, heard late, comes to a row that is blank; then it takes a further hearing.
        rows = ["run any to run", "lead always run to old", "join none old to old", "join old run to run",
                "lead own run to run"]
        self.assert_fault(tool(*rows, told="run"), "false", None)
        self.assert_fault(tool("run any to run", "lead always run to old", "join none old to old", "join old old to run",
                               told="run"), "false", 2)

    def test_missed(self):
        self.assert_fault(tool("run any to run"), "missed", 1)
        self.assert_fault(tool("run any to run", "lead own run to run", "join any any to came"), "missed", 2)
        self.assert_fault(tool("run any to run", "lead own run to run", "join none any to came"), "missed", None)
        # Known is not told where the neighbours are looked at and the promise does not look at them.
        rows = ["run any to run", "lead own and below run to run", "join none any to came"]
        self.assert_fault(tool(*rows), "missed", 1)
        self.assert_fault(tool(*rows, parts="own below"), "missed", None)

    def test_order(self):
        rows = ["run any to run", "lead own any to run"]
        self.assert_fault(tool(*rows, "join any any to came"), "order", 0)
        self.assert_fault(tool(*rows, "join any run to run"), "order", None)
        self.assert_fault(tool(*rows, "join none any to came"), "order", None)
        # Where one mark comes alone, no order matters.
        self.assert_fault(tool("join none none to run", "join run none to none"), "order", None)
        self.assert_fault(tool(*rows, "join none run to run", "join run none to none"), "order", 0)
        self.assert_fault(tool(*rows, "join none run to run", "join run run to old", "join old any to came"), "order", 1)

    def test_twice(self):
        rows = ["run any to run", "lead own any to run"]
        self.assert_fault(tool(*rows, "join any any to came"), "twice", None)
        self.assert_fault(tool(*rows, "join none run to run", "join run run to old"), "twice", 0)
        self.assert_fault(tool(*rows, "join none run to old", "join old run to old"), "twice", None)
        self.assert_fault(tool("run any to run", "join none none to run", "join run none to old", "join run run to here"),
                          "twice", 0)

    def test_clearing(self):
        # What is run again behind a sending is another mark, if the machine does not clear.
        rows = ["run none to run", "run run to old", "lead own any to old", "join none old to old", "join old any to none",
                "join none run to none"]
        for send in ("keep", "clear"):
            self.assert_fault(tool(*rows, send=send), "fallen", 2)
        rows = ["run none to run", "lead always run to old", "run old to none", "join any any to came"]
        for send in ("keep", "clear"):
            self.assert_fault(tool(*rows, send=send), "false", 1)
            self.assert_fault(tool(*rows[:1], "join any any to came", send=send), "false", None)

    def test_many_hearings(self):
        self.assert_faults(Tool.read("\n".join(CLIMB)), fallen=5, missed=1, twice=0)
        self.assert_faults(Tool.read("\n".join(CLIMB[:11])), missed=1, twice=0)
        self.assert_faults(Tool.read("\n".join(CLIMB[:10])), fallen=4, missed=1, twice=0)
        self.assert_faults(Tool.read("\n".join([*CLIMB[:11], "lead not own d to d"])), false=4, missed=1, twice=0)

    def test_patterns_are_looked_at_each(self):
        """Only one of the eight patterns makes a told mark of one that is not known."""
        for same in range(8):
            words = " and ".join(("" if same >> at & 1 else "not ") + part
                                 for at, part in enumerate(("above", "own", "below")))
            one = tool("run any to old", f"lead {words} old to run", "join any any to came", told="run",
                       parts="above below own")
            self.assert_fault(one, "false", None if same == 7 else 1)

    def test_known_only_as_it_is(self):
        # Led, each mark is lost: the machine must hold the newest edition.
        one = tool("run any to run", "join none run to run", "join run run to none", told="run")
        self.assert_fault(one, "fallen", 1)
        one = tool("run any to run", "lead own run to run", "join none run to run", "join run run to none", told="run")
        self.assert_fault(one, "fallen", 2)

    def test_machines_that_fetch_and_run_again(self):
        one = ["marks none a b c d", "told d", "parts own", "send keep", "run none to a", "run a to b", "lead own b to c",
               "run c to d", "join none d to d", "run d to none"]
        self.assert_faults(Tool.read("\n".join(one)), fallen=1, missed=1)
        # By the same content the mark is another one; then another content makes it one that is told.
        one = Tool.read("\n".join([*one[:8], "lead not own d to d", "join none any to came"]))
        self.assert_faults(one, fallen=1, false=1, missed=1, order=0)
        one = Tool.read("\n".join(["marks none a b c d", "told d", "parts own", "send clear", "run any to a",
                                   "lead own and not above a to b", "lead not own and above b to c",
                                   "lead own and not below c to d", "join none d to came"]))
        self.assert_faults(one, fallen=1, false=1, missed=1)

    def test_texts_that_stay_what_they_were(self):
        alike = "own and above and below"
        one = Tool.read("\n".join(["marks none a b c d", "told d", "parts above below own", "send keep", "run none to a",
                                   f"lead {alike} a to b", f"lead {alike} b to c", f"lead {alike} c to d",
                                   "join none d to came"]))
        self.assert_faults(one, fallen=1, missed=1)
        self.assertEqual(lists(one)[0], (("a", True), ("b", True), ("c", True), ("d", True), ("none", False),
                                         ("none", True)))

    def test_hearings_between_edits(self):
        one = Tool.read("\n".join(["marks none a b c x", "told c", "parts own", "send keep", "run any to a",
                                   "lead own a to b", "lead not own and above a to x", "join none a to a",
                                   "join b x to c"]))
        self.assert_faults(one, fallen=2, missed=1)
        one = Tool.read("\n".join([str(one), "join c b to x"]))
        self.assert_faults(one, fallen=2, missed=1, order=1)

    def test_as_the_document_says_it(self):
        for seed in range(250):
            dice = random.Random(seed)
            one = some_tool(dice, dice.randint(1, 5), dice.choice([4, 10, 16]), dice.choice([0, 0.3, 0.6]))
            for fault in FAULTS:
                self.assert_fault(one, fault, wanted_fewest(one, fault))

    def test_no_story_does_better(self):
        for seed in range(250):
            dice = random.Random(seed)
            one = some_tool(dice, dice.randint(2, 4))
            for _ in range(3):
                met = World(one, some_story(dice, 16, dice.randint(1, 3))).first_met
                for fault, many in met.items():
                    self.assertTrue(happens(one, fault))
                    self.assertLessEqual(fewest(one, fault), many)


class TestStory(DecidingCase):
    def test_the_story_can_be_passed_on(self):
        for one in (near(), last(), Tool.read("\n".join(CLIMB))):
            for fault in faults(one):
                told = story(one, fault)
                self.assertEqual(Story.read(str(told)), told)
                self.assertEqual(len(told.more(["send 0", f"hear {str(told).count('send')}"])), len(told) + 2)
                self.assertEqual(story(one, fault), told)

    def test_what_was_met_is_met_behind_the_last_event(self):
        told = story(last(), "fallen")
        self.assertIn("fallen", [word for word, _ in play(last(), told).now])
        self.assertNotIn("fallen", play(last(), told.upto(len(told) - 1)).met)


class TestLists(DecidingCase):
    def test_the_document(self):
        self.assertEqual(lists(plain()), ((("none", False), ("run", True)), (("none", False), ("run", True))))
        self.assertEqual(lists(near())[1], (("none", False), ("run", False), ("run", True)))
        self.assertEqual(lists(last())[1], (("none", False), ("none", True), ("run", True)))

    def test_form(self):
        for one in (plain(), near(), last(), tool()):
            found = lists(one)
            self.assertEqual((found.__class__, len(found)), (tuple, 2))
            for pairs in found:
                self.assertIs(pairs.__class__, tuple)
                self.assertEqual(pairs, tuple(sorted(set(pairs))))
                for mark, known in pairs:
                    self.assertEqual((mark in one.marks, known.__class__), (True, bool))

    def test_machines(self):
        self.assertEqual(lists(tool())[0], (("none", False), ("none", True)))
        self.assertEqual(lists(tool("run none to run", "run run to old"))[0],
                         (("none", False), ("none", True), ("old", True), ("run", True)))
        self.assertEqual(lists(tool("run any to old", "lead own and above old to run", "run run to run"))[0],
                         (("none", False), ("none", True), ("old", True), ("run", True)))
        self.assertEqual(lists(tool("run any to old", "lead not own old to run"))[0],
                         (("none", False), ("none", True), ("old", True), ("run", False)))
        # No run, no known pair: but each row can be run.
        self.assertEqual(lists(tool("lead always any to run"))[0], (("none", False), ("none", True)))

    def test_the_head(self):
        one = tool("run any to run", "lead not own run to old", "join none any to came")
        self.assertEqual(lists(one)[1], (("none", False), ("none", True), ("old", False), ("old", True), ("run", True)))
        one = tool("run any to run", "lead not own run to old", "join any any to came")
        self.assertEqual(lists(one)[1], (("none", False), ("none", True), ("old", False), ("old", True), ("run", True)))
        one = tool("run any to run", "join none none to old")
        self.assertEqual(lists(one)[1], (("none", False), ("none", True), ("old", False), ("old", True)))
        self.assertEqual(lists(one)[0], (("none", False), ("none", True), ("run", True)))

    def test_as_the_document_says_it(self):
        for seed in range(300):
            dice = random.Random(seed)
            one = some_tool(dice, dice.randint(1, 5), dice.choice([4, 10, 16]))
            self.assertEqual(tuple(set(pairs) for pairs in lists(one)), wanted_lists(one), str(one))

    def test_all_pairs_of_stories_are_in_them(self):
        for seed in range(250):
            dice = random.Random(seed)
            one = some_tool(dice, dice.randint(2, 4))
            machines, head = lists(one)
            for _ in range(3):
                seen = World(one, some_story(dice, 16)).seen
                self.assertLessEqual(seen[0], set(machines))
                self.assertLessEqual(seen[1], set(head))


class TestWrongFaults(DecidingCase):
    def test_any_value(self):
        for value in [*ANY, "Fallen", "false ", "fallen missed", ["false"], ("false",), "falsely", "lost", b"false"]:
            for call in (happens, fewest, story):
                for one in (plain(), last()):
                    with self.assertRaises(InvalidFault):
                        call(one, value)

    def test_right_ones(self):
        for fault in FAULTS:
            self.assertIs(happens(tool=plain(), fault=fault), False)
            self.assertIsNone(fewest(tool=plain(), fault=fault))
            self.assertIsNone(story(tool=plain(), fault=fault))
        self.assertEqual((faults(tool=plain()), lists(tool=plain())), ((), lists(plain())))

    def test_the_same_call_returns_an_equal_result(self):
        texts = ["\n".join(LINES), "\n".join(CLIMB), str(last())]
        first = [(faults(Tool.read(text)), lists(Tool.read(text))) for text in texts]
        told = [[story(Tool.read(text), fault) for fault in faults(Tool.read(text))] for text in texts]
        for at, text in reversed(list(enumerate(texts))):
            one = Tool.read(text)
            self.assertEqual((faults(one), lists(one)), first[at])
            self.assertEqual([story(one, fault) for fault in faults(one)], told[at])
            self.assertEqual(str(one), text)


if __name__ == "__main__":
    unittest.main()
