"""[10], [11]: stories."""

import itertools
import random
import unittest

from ledmarks.editions import Edition
from ledmarks.errors import InvalidStory, InvalidText, NoEvent
from ledmarks.stories import Story
from models import some_story
from things import ANY, NAMES, NO_NAMES, story

# What comes ahead: two editions of three rows and of one; machine 1 has fetched; one message.
AHEAD = ["send 0", "edit x:1", "fetch 1"]
LINES = ["text a b c", "machines 2", *AHEAD]

# No decimal digits, at most two, without leading zeros.
NO_NUMBERS = ["", "00", "01", "-1", "+1", "100", "x", "1.", "0x1", "\u00b2", "1\n", "a:0", "10 ", "1,2"]


class StoryCase(unittest.TestCase):
    def assert_wrong(self, at, *arguments, **named):
        with self.assertRaises(InvalidStory) as caught:
            Story(*arguments, **named)
        self.assertEqual(caught.exception.at, at, (arguments, named))

    def assert_wrong_event(self, event):
        """The event is wrong, whether nothing is behind it or much."""
        first = Edition.read("a b c")
        self.assert_wrong(3, first, 2, [*AHEAD, event])
        self.assert_wrong(3, first, 2, (*AHEAD, event, "send 1", event, "x"))
        with self.assertRaises(InvalidStory) as caught:
            Story(first, 2, AHEAD).more([event])
        self.assertEqual(caught.exception.at, 3, event)

    def assert_good_event(self, event):
        one = story("a b c", 2, *AHEAD, event)
        self.assertEqual(one.events, (*AHEAD, event))
        self.assertEqual(str(Story.read("\n".join([*LINES, event]))), "\n".join([*LINES, event]))

    def assert_no_text(self, at, text):
        with self.assertRaises(InvalidText) as caught:
            Story.read(text)
        self.assertEqual(caught.exception.at, at, text)


class TestMaking(StoryCase):
    def test_attributes(self):
        first = Edition.read("a b c")
        for events in (list(AHEAD), tuple(AHEAD)):
            one = Story(first, 2, events)
            self.assertEqual((one.first, one.machines, one.events), (first, 2, tuple(AHEAD)))
            self.assertIs(one.events.__class__, tuple)
        self.assertEqual((Story(first, 1).events, Story(first, 4, []).events), ((), ()))

    def test_by_name_and_by_position(self):
        one = Story(events=["send 2"], machines=3, first=Edition([]))
        self.assertEqual(one, story("-", 3, "send 2"))
        self.assertEqual((len(one.first), one.machines, one.events), (0, 3, ("send 2",)))

    def test_wrong_as_a_whole(self):
        first = Edition.read("a b")
        for value in ANY:
            if not isinstance(value, Edition):
                self.assert_wrong(0, value, 1, [])
            if value.__class__ is not int or value < 1:
                self.assert_wrong(0, first, value, [])
            if not isinstance(value, (list, tuple)):
                self.assert_wrong(0, first, 1, value)
        for events in ("", "send 0", {"send 0"}, {"send 0": 1}, {}):
            self.assert_wrong(0, first, 1, events)

    def test_first_texts_with_elders(self):
        for text in ("a:0", "a b:1", "a:0 b:1", "a b c:7"):
            self.assert_wrong(0, Edition.read(text), 1, [])
            self.assert_wrong(0, Edition.read(text), 1, ["x"])
        for text in ("-", "a", "a b", "a a a"):
            self.assertEqual(Story(Edition.read(text), 1).first, Edition.read(text))

    def test_machines(self):
        first = Edition.read("a")
        for machines in (1, 2, 4, 5, 10 ** 40):
            self.assertEqual(Story(first, machines, ["send 0"]).machines, machines)
        for machines in (0, -1, -10 ** 40, True, False, None, "1", "2", [1], (1,)):
            self.assert_wrong(0, first, machines, [])

    def test_any_value_as_an_event(self):
        for value in ANY:
            self.assert_wrong_event(value)
            self.assert_wrong(0, Edition.read("a"), 1, [value])

    def test_the_first_wrong_event(self):
        events = ["send 0", "run 0 0", "edit b:0", "fetch 0", "hear 0", "send 0"]
        for many in range(1, 4):
            for wrong in itertools.combinations(range(6), many):
                spoilt = ["hear 9" if at in wrong else event for at, event in enumerate(events)]
                self.assert_wrong(wrong[0], Edition.read("a"), 1, spoilt)
        self.assertEqual(story("a", 1, *events).events, tuple(events))

    def test_changed_arguments(self):
        events = list(AHEAD)
        one = Story(Edition.read("a b c"), 2, events)
        text = str(one)
        events.append("x")
        events[0] = "y"
        self.assertEqual((str(one), len(one), one[0], one.events), (text, 3, "send 0", tuple(AHEAD)))
        further = ["send 1"]
        other = one.more(further)
        further[0] = "x"
        self.assertEqual((other[3], further), ("send 1", ["x"]))

    def test_arguments_are_not_changed(self):
        events = list(AHEAD)
        one = Story(Edition.read("a b c"), 2, events)
        further = ["send 1", "hear 1"]
        one.more(further)
        self.assertEqual((events, further, len(one)), (AHEAD, ["send 1", "hear 1"], 3))


class TestEvents(StoryCase):
    def test_edit(self):
        for text in ["-", "a", "a:0", "x:0 y", "x y:0", "x x x", "b a:0 c d e"]:
            self.assert_good_event(f"edit {text}")
        for name in NAMES:
            self.assert_good_event(f"edit {name}")
            self.assert_good_event(f"edit {name}:0 {name}")
        for text in ["a:1", "a:0 b:1", "a b:7", "a:99", "a:2"]:
            self.assert_wrong_event(f"edit {text}")
        for text in ["", " ", "a:0 b:0", "a  b", " a", "a ", "a:", ":0", "a:00", "a:01", "a:-1", "a:100", "- a", "a -",
                     "--", "a:0:0", "A", "a:x", "a\n", "a,b", "a :0"]:
            self.assert_wrong_event(f"edit {text}")
        for word in NO_NAMES:
            if word not in ("-", "a:0", "a b"):
                self.assert_wrong_event(f"edit {word}")
                self.assert_wrong_event(f"edit a {word}")
        self.assert_wrong_event("edit")
        self.assert_wrong_event("edita")

    def test_an_elder_is_a_row_of_the_edition_ahead(self):
        self.assertEqual(story("a b", 1, "edit c:1 a:0 d", "edit d:2").editions[2], Edition.read("d:2"))
        self.assert_wrong(0, Edition.read("a b"), 1, ["edit c:2"])
        self.assert_wrong(1, Edition.read("a b c"), 1, ["edit a:0", "edit c:1"])
        self.assert_wrong(1, Edition.read("a b c"), 1, ["edit -", "edit c:0"])
        self.assert_wrong(0, Edition.read("-"), 1, ["edit c:0"])

    def test_fetch_and_send(self):
        for word in ("fetch", "send"):
            self.assert_good_event(f"{word} 0")
            self.assert_good_event(f"{word} 1")
            for machine in ("2", "3", "9", "10", "99"):
                self.assert_wrong_event(f"{word} {machine}")
            for number in NO_NUMBERS:
                self.assert_wrong_event(f"{word} {number}")
            for event in (word, f"{word} 0 0", f"{word} 0 1", f" {word} 0", f"{word}  0", f"{word} 0 ", f"{word}s 0",
                          word.upper() + " 0", f"{word}0", f"{word} 0\n", f"{word}\t0"):
                self.assert_wrong_event(event)

    def test_machines_of_two_digits(self):
        one = story("a b", 100, "fetch 99", "run 99 1", "send 10", "run 10 0 1")
        self.assertEqual(len(one), 4)
        self.assert_wrong(1, Edition.read("a"), 99, ["fetch 98", "fetch 99"])

    def test_run(self):
        for event in ["run 0", "run 0 0", "run 0 0 1", "run 0 0 1 2", "run 0 2", "run 0 0 2", "run 1", "run 1 0"]:
            self.assert_good_event(event)
        # Machine 0 holds the text of three rows, machine 1 has fetched the one of one row.
        for event in ["run 0 3", "run 0 0 3", "run 0 99", "run 1 1", "run 1 2", "run 1 0 1", "run 2", "run 2 0",
                      "run 99 0"]:
            self.assert_wrong_event(event)
        for event in ["run", "run ", "run 0 ", "run  0", "run 0  1", "run 0 1 0", "run 0 1 1", "run 0 0 0", "run 0 2 1",
                      "run 0 0 2 1", "run 0,1", "run 0 x", "run x 0", "run 0 any", "runs 0", "run 0 0\n"]:
            self.assert_wrong_event(event)
        for number in NO_NUMBERS:
            self.assert_wrong_event(f"run {number}")
            self.assert_wrong_event(f"run {number} 0")
            self.assert_wrong_event(f"run 0 {number}")
            self.assert_wrong_event(f"run 0 0 {number}")

    def test_rows_of_the_edition_of_the_machine(self):
        first = Edition.read("a")
        events = ["edit a:0 b", "run 0 0", "fetch 0", "run 0 1", "edit -", "run 0 1", "fetch 0", "run 0"]
        self.assertEqual(len(Story(first, 1, events)), 8)
        self.assert_wrong(1, first, 1, ["edit a:0 b", "run 0 1"])
        self.assert_wrong(3, first, 2, ["edit a:0 b", "fetch 1", "run 1 1", "run 0 1"])
        self.assert_wrong(7, first, 1, [*events[:7], "run 0 0"])
        self.assert_wrong(0, Edition([]), 1, ["run 0 0"])

    def test_hear(self):
        self.assert_good_event("hear 0")
        for number in ["1", "2", "99", *NO_NUMBERS]:
            self.assert_wrong_event(f"hear {number}")
        for event in ["hear", "hear 0 0", "hear 0 1", "hear  0", " hear 0", "hear 0 ", "hears 0", "Hear 0"]:
            self.assert_wrong_event(event)
        self.assert_wrong(0, Edition.read("a"), 1, ["hear 0"])
        self.assert_wrong(0, Edition.read("a"), 1, ["hear 0", "send 0"])
        self.assert_wrong(2, Edition.read("a"), 1, ["send 0", "hear 0", "hear 1", "send 0"])
        one = story("a", 2, "send 1", "send 1", "hear 1", "hear 0", "hear 1", "edit -", "hear 0", "hear 0")
        self.assertEqual(len(one), 8)

    def test_other_words(self):
        for event in ["", " ", "x", "0", "undo", "join 0", "text a", "machines 1", "edit\na", "send 0\nsend 0", "fetch1",
                      "0 fetch", "and 0", "-", "run any to run"]:
            self.assert_wrong_event(event)


class TestParts(StoryCase):
    def test_length_and_index(self):
        one = story("a b c", 2, *AHEAD)
        self.assertEqual((len(one), [one[at] for at in range(3)]), (3, AHEAD))
        self.assertEqual(len(story("a", 1)), 0)

    def test_no_event(self):
        for one in (story("a", 1), story("a", 1, "send 0"), story("a b c", 2, *AHEAD)):
            many = len(one)
            for at in {-1, -many, -many - 1, many, many + 1, 10 ** 40, -10 ** 40} - {0} | ({0} if many == 0 else set()):
                with self.assertRaises(NoEvent) as caught:
                    one[at]
                self.assertEqual(caught.exception.at, at)

    def test_upto(self):
        one = story("a b c", 2, *AHEAD)
        for many in range(4):
            self.assertEqual(one.upto(many), story("a b c", 2, *AHEAD[:many]))
        for many in (4, 40, 10 ** 40):
            self.assertEqual(one.upto(many=many), one)
        self.assertEqual([len(one.upto(many).editions) for many in range(5)], [1, 1, 2, 2, 2])
        self.assertEqual(len(one), 3)

    def test_more(self):
        one = story("a b c", 2, *AHEAD)
        for events in (["hear 0", "run 1 0"], ("hear 0", "run 1 0")):
            self.assertEqual(one.more(events), story("a b c", 2, *AHEAD, "hear 0", "run 1 0"))
        self.assertEqual((one.more([]), one.more(events=())), (one, one))
        self.assertEqual(len(one), 3)

    def test_more_with_a_wrong_event(self):
        one = story("a b c", 2, *AHEAD)
        for at, events in [(3, ["hear 1"]), (4, ["hear 0", "hear 1"]), (4, ("send 0", None, "x")), (5, ["send 0"] * 2 + [[]]),
                           (3, [""]), (3, ["edit a:0 b:1"])]:
            with self.assertRaises(InvalidStory) as caught:
                one.more(events)
            self.assertEqual(caught.exception.at, at, events)

    def test_more_with_what_is_no_sequence(self):
        for one in (story("a b c", 2, *AHEAD), story("a", 1)):
            for value in ANY:
                if isinstance(value, (list, tuple)):
                    continue
                with self.assertRaises(InvalidStory) as caught:
                    one.more(value)
                self.assertEqual(caught.exception.at, 0, value)

    def test_more_with_any_things(self):
        one = story("a b c", 2, *AHEAD)
        for value in ANY:
            with self.assertRaises(InvalidStory) as caught:
                one.more(["send 0", value])
            self.assertEqual(caught.exception.at, 4)

    def test_editions(self):
        one = story("a b", 1, "edit b:1 c", "send 0", "edit -", "edit d")
        self.assertEqual(one.editions, tuple(Edition.read(text) for text in ("a b", "b:1 c", "-", "d")))
        self.assertIs(one.editions.__class__, tuple)
        self.assertEqual(story("a", 1, "send 0").editions, (Edition.read("a"),))
        self.assertEqual(story("-", 1).editions[0], Edition([]))
        self.assertIsInstance(vars(Story)["editions"], property)

    def test_not_iterable(self):
        for one in (story("a", 1), story("a b c", 2, *AHEAD)):
            for call in (iter, list, tuple, sorted):
                with self.assertRaises(TypeError):
                    call(one)
            with self.assertRaises(TypeError):
                "send 0" in one

    def test_equality(self):
        def stories():
            return [story("a b c", 2, *AHEAD), story("a b c", 2, *AHEAD[:2]), story("a b c", 3, *AHEAD),
                    story("a b d", 2, *AHEAD), story("a b", 2, *AHEAD), story("a b c", 2, *AHEAD, "send 0"),
                    story("a b c", 2), story("-", 2), story("-", 1)]

        for (at, one), (to, other) in itertools.product(enumerate(stories()), enumerate(stories())):
            self.assertIs(one == other, at == to)
            self.assertIs(one != other, at != to)
        self.assertEqual(Story(Edition([("a", None)]), 1, ["send 0"]), Story(Edition.read("a"), 1, ("send 0",)))

    def test_equal_to_nothing_of_another_class(self):
        one = story("a", 1, "send 0")
        for other in [*ANY, str(one), one.events, one.first, object()]:
            self.assertIs(one == other, False)
            self.assertIs(other == one, False)


class TestText(StoryCase):
    def test_text(self):
        self.assertEqual(str(story("a b c", 2, *AHEAD)), "\n".join(LINES))
        self.assertEqual(str(story("-", 1)), "text -\nmachines 1")
        self.assertEqual(str(story("abcd", 12, "run 11 0")), "text abcd\nmachines 12\nrun 11 0")

    def test_reading(self):
        one = Story.read(text="\n".join(LINES))
        self.assertEqual(one, story("a b c", 2, *AHEAD))
        self.assertEqual((one.first, one.machines, one.events), (Edition.read("a b c"), 2, tuple(AHEAD)))
        self.assertEqual(len(Story.read("text -\nmachines 99")), 0)
        self.assertEqual(one.elder(1, 0, 0), 1)

    def test_reading_gives_back_the_story(self):
        for seed in range(60):
            one = some_story(random.Random(seed))
            self.assertEqual(Story.read(str(one)), one)
            self.assertEqual(str(Story.read(str(one))), str(one))

    def test_wrong_first_lines(self):
        for line in ["", "text", "text ", "text  a", " text a", "text a ", "text a:0", "text a b:0", "text A", "text a  b",
                     "text any", "texts a", "a b c", "Text a", "text a,b", "text a -", "edit a", "machines 2", "text\ta"]:
            self.assert_no_text(0, line)
            self.assert_no_text(0, "\n".join([line, *LINES[1:]]))
            self.assert_no_text(0, f"{line}\nx\nx")

    def test_wrong_machines(self):
        for number in {*NO_NUMBERS, "0"} - {"1\n"}:
            self.assert_no_text(1, f"text a b c\nmachines {number}")
            self.assert_no_text(1, "\n".join([LINES[0], f"machines {number}", *AHEAD]))
        for line in ["", "machines", "machine 1", "machines  1", " machines 1", "machines 1 ", "machines 1 1", "1",
                     "Machines 1", "text a", "send 0", "x"]:
            self.assert_no_text(1, "\n".join([LINES[0], line, *AHEAD, "x"]))
            self.assert_no_text(1, f"text a b c\n{line}")

    def test_fewer_than_two_lines(self):
        self.assert_no_text(1, "text a b c")
        self.assert_no_text(1, "text -")
        self.assert_no_text(0, "")
        self.assert_no_text(0, "machines 1")

    def test_wrong_events(self):
        for event in ["", "x", "send 2", "hear 1", "edit a:0 b:0", "edit a:1", "run 1 1", "run 0 3", "send 0 ", "text a",
                      "machines 1", "hear 00"]:
            self.assert_no_text(5, "\n".join([*LINES, event]))
            self.assert_no_text(5, "\n".join([*LINES, event, "x", event]))
        self.assert_no_text(2, "text a\nmachines 1\n")
        self.assert_no_text(2, "text a\nmachines 1\nhear 0\nsend 0")
        self.assert_no_text(5, "\n".join([*LINES, ""]))

    def test_the_first_line_that_cannot_stand(self):
        for at in range(5):
            self.assert_no_text(at, "\n".join([*LINES[:at], *["x"] * (5 - at)]))


class TestElder(StoryCase):
    def setUp(self):
        self.story = story("a b c", 1, "edit b:1 x c:2", "send 0", "edit c:2 y b:0 x:1", "edit b:2 y:1 c:0")

    def test_over_several_editions(self):
        elder = self.story.elder
        self.assertEqual([elder(3, row, 0) for row in range(3)], [1, None, 2])
        self.assertEqual([elder(3, row, 1) for row in range(3)], [0, None, 2])
        self.assertEqual([elder(3, row, 2) for row in range(3)], [2, 1, 0])
        self.assertEqual([elder(2, row, 0) for row in range(4)], [2, None, 1, None])
        self.assertEqual([elder(2, row, 1) for row in range(4)], [2, None, 0, 1])
        self.assertEqual([elder(1, row, 0) for row in range(3)], [1, None, 2])

    def test_the_row_itself_in_the_same_edition(self):
        for at, edition in enumerate(self.story.editions):
            for row in range(len(edition)):
                self.assertEqual(self.story.elder(at, row, at), row)

    def test_a_row_that_was_left_out_does_not_come_back(self):
        one = story("a", 1, "edit -", "edit a", "edit a:0")
        self.assertEqual([one.elder(3, 0, other) for other in range(4)], [None, None, 0, 0])

    def test_by_name(self):
        self.assertEqual(self.story.elder(other=1, edition=3, row=0), 0)

    def test_step_by_step(self):
        for seed in range(40):
            one = some_story(random.Random(seed), 14)
            last = len(one.editions) - 1
            for edition, between, other in itertools.product(range(last + 1), repeat=3):
                for row in range(len(one.editions[edition])) if edition >= between >= other else ():
                    way = one.elder(edition, row, between)
                    way = None if way is None else one.elder(between, way, other)
                    self.assertEqual(one.elder(edition, row, other), way)


if __name__ == "__main__":
    unittest.main()
