"""[1], [2], [3]: what holds for all modules; and the form of the package."""

import ast
import doctest
import inspect
import pathlib
import unittest

import ledmarks
from ledmarks import (comparing, deciding, desk, editions, errors, keeping, live, papers, rows, runs, stories, tools,
                      words)
from things import ANY, FAULTS, NAMES, NO_NAMES, OBJECTS, last, near, plain, story, third

ROOT = pathlib.Path(__file__).resolve().parent.parent
PACKAGE = ROOT / "ledmarks"
FILES = sorted(PACKAGE.rglob("*.py"))

# module -> class or function -> parameter names (behind self)
INTERFACE = {
    rows: {"Run": ["old", "then"], "Lead": ["tests", "old", "then"], "Join": ["here", "came", "then"],
           "Row.read": ["text"]},
    tools: {"Tool": ["marks", "told", "parts", "clears", "rows"], "Tool.ran": ["mark"], "Tool.led": ["mark", "same"],
            "Tool.joined": ["here", "came"], "Tool.keeps": ["same"], "Tool.without": ["at"],
            "Tool.heeding": ["parts"], "Tool.read": ["text"]},
    editions: {"Edition": ["rows"], "Edition.frame": ["at"], "Edition.read": ["text"], "same": ["one", "other"]},
    stories: {"Story": ["first", "machines", "events"], "Story.upto": ["many"], "Story.more": ["events"],
              "Story.elder": ["edition", "row", "other"], "Story.read": ["text"]},
    runs: {"play": ["tool", "story"], "lacking": ["tool", "story", "base"]},
    deciding: {"happens": ["tool", "fault"], "faults": ["tool"], "fewest": ["tool", "fault"],
               "story": ["tool", "fault"], "lists": ["tool"]},
    papers: {"paper": ["tool", "fault"], "paper_holds": ["tool", "fault", "value"]},
    comparing: {"alike": ["p", "q"], "parting": ["p", "q"], "twins": ["tool"], "merged": ["tool"]},
    keeping: {"least_parts": ["tool", "wanted"], "needless": ["tool", "wanted"], "repairs": ["tool", "wanted"],
              "swaps": ["tool"]},
    live: {"Live": ["tool", "first", "machines"], "Live.do": ["event"], "Live.several": ["events"],
           "Live.change": ["tool"], "Live.undo": [], "Live.trial": [], "Live.within": ["work"]},
    desk: {"Desk": [], "Desk.say": ["command"]},
}
OWN = {
    rows.Row: ["read", "__eq__", "__str__"],
    tools.Tool: ["ran", "led", "joined", "keeps", "without", "heeding", "read", "__len__", "__getitem__", "__eq__",
                 "__str__"],
    editions.Edition: ["frame", "read", "__len__", "__getitem__", "__eq__", "__str__"],
    stories.Story: ["editions", "upto", "more", "elder", "read", "__len__", "__getitem__", "__eq__", "__str__"],
    live.Live: ["story", "played", "tool", "do", "several", "change", "undo", "trial", "within", "__len__"],
    desk.Desk: ["say"],
}


class TestWords(unittest.TestCase):
    def test_names(self):
        for name in NAMES:
            self.assertIs(words.is_name(name), True)
        for value in [*NO_NAMES, None, 1, ["a"], ("a",)]:
            self.assertIs(words.is_name(value), False)
        good = [value for value in ANY if words.is_name(value)]
        self.assertEqual(good, ["a", "abcd"])

    def test_each_letter(self):
        for code in range(32, 127):
            self.assertIs(words.is_name(chr(code)), chr(code) in "abcdefghijklmnopqrstuvwxyz")
            self.assertIs(words.is_name("a" + chr(code)), chr(code) in "abcdefghijklmnopqrstuvwxyz")

    def test_numbers(self):
        for value in ANY:
            good = value.__class__ is int and value >= 0
            self.assertIs(words.is_number(value), good)

    def test_sequences(self):
        for value in ANY:
            self.assertIs(words.is_sequence(value), value.__class__ in (list, tuple))

    def test_decimals(self):
        for text in [str(number) for number in range(100)]:
            self.assertIs(words.is_decimal(text), True)
        for text in ["", "00", "01", "09", "100", "a", "1a", "a1", " 1", "1 ", "-1", "+1", "1.", "\u00b2", "\u0661"]:
            self.assertIs(words.is_decimal(text), False)


class TestCalls(unittest.TestCase):
    def test_parameter_names(self):
        for module, named in INTERFACE.items():
            for path, wanted in named.items():
                thing = module
                for word in path.split("."):
                    thing = getattr(thing, word)
                parameters = [word for word in inspect.signature(thing).parameters if word != "self"]
                self.assertEqual(parameters, wanted, path)

    def test_methods_stand_in_the_class_itself(self):
        for owner, names in OWN.items():
            for name in names:
                self.assertIn(name, vars(owner), owner)
            if "read" in names:
                self.assertIsInstance(vars(owner)["read"], classmethod)
        for owner, names in ((stories.Story, ["editions"]), (live.Live, ["story", "played", "tool"])):
            for name in names:
                self.assertIsInstance(vars(owner)[name], property)

    def test_things_are_defined_in_their_module(self):
        for module, named in INTERFACE.items():
            for path in named:
                self.assertEqual(getattr(module, path.split(".")[0]).__module__, module.__name__)

    def test_default_arguments(self):
        self.assertEqual(inspect.signature(stories.Story).parameters["events"].default, ())
        self.assertEqual(stories.Story(editions.Edition.read("a"), 1), story("a", 1))

    def test_the_class_of_what_is_played(self):
        played = runs.play(plain(), story("a", 1, "run 0 0", "send 0", "hear 0"))
        self.assertIs(played.__class__, runs.Played)
        self.assertEqual(runs.Played.__module__, runs.__name__)
        self.assertEqual(sorted(vars(played)), ["books", "known", "marks", "met", "now", "sent", "told"])

    def test_what_is_returned_may_be_passed_on(self):
        one = story("a b", 1, "run 0 1", "send 0")
        played = runs.play(plain(), one)
        self.assertEqual(stories.Story(one.first, one.machines, one.events), one)
        self.assertEqual(one.more(one.events).upto(2), one)
        self.assertEqual(stories.Story(one.editions[-1], one.machines, played.now), story("a b", 1))
        told = deciding.story(near(), deciding.faults(near())[0])
        self.assertEqual(runs.play(near(), told.more(["fetch 0"])).told, (1,))
        self.assertIs(papers.paper_holds(near(), "order", papers.paper(near(), "order")), True)
        self.assertEqual(tools.Tool(plain().marks, plain().told, plain().parts, True, plain().rows), plain())

    def test_equal_calls_equal_results(self):
        one = plain()
        first = [one.ran("none"), one.led("run", (True, True, True)), one.heeding([]), one.without(0), str(one)]
        near().heeding(["own"])
        with self.assertRaises(errors.NoMark):
            one.ran("x")
        with self.assertRaises(errors.NoRow):
            one.without(9)
        again = [one.ran("none"), one.led("run", (True, True, True)), one.heeding([]), one.without(0), str(one)]
        self.assertEqual(first, again)

    def test_lists_and_tuples(self):
        """The same is told of both, and neither is changed."""
        def made(kind):
            wanted = kind(["missed", "false"])
            one = tools.Tool(kind(["none", "run"]), kind(["run"]), kind(["own"]), True,
                             kind([rows.Run("any", "run"), rows.Lead(kind(["own"]), "run", "run")]))
            first = editions.Edition(kind([("a", None), ("b", None)]))
            events = kind(["run 0 0", "send 0"])
            thing = live.Live(one, first)
            thing.several(events)
            return (str(one), str(one.heeding(kind(["above"]))), keeping.least_parts(one, wanted),
                    keeping.needless(one, wanted), keeping.repairs(one, wanted), str(thing.story),
                    str(stories.Story(first, 1, events).more(kind(["hear 0"])))), (wanted, events)

        (of_lists, lists), (of_tuples, tuples) = made(list), made(tuple)
        self.assertEqual(of_lists, of_tuples)
        self.assertEqual((lists, tuples), ((["missed", "false"], ["run 0 0", "send 0"]),
                                           (("missed", "false"), ("run 0 0", "send 0"))))

    def test_nothing_is_iterable(self):
        thing = live.Live(plain(), editions.Edition.read("a"))
        for one in [*OBJECTS, thing, thing.trial(), thing.story, thing.played, desk.Desk(), errors.Refused(1),
                    errors.NoEvent(0)]:
            for call in (iter, list, tuple, set, enumerate, lambda it: [*it], lambda it: None in it):
                with self.assertRaises(TypeError):
                    call(one)

    def test_other_objects_are_not_changed(self):
        one, other = plain(), last()
        texts = (str(one), str(other))
        wanted = ["false", "order"]
        thing = live.Live(one, editions.Edition.read("a b"))
        table = desk.Desk()
        table.say("tool " + str(other).replace("\n", " ; "))
        for _ in range(2):
            self.assertEqual([comparing.alike(one, other), comparing.twins(one), comparing.merged(one) == one],
                             [False, (("none",), ("run",)), True])
            self.assertEqual(comparing.parting(one, other), comparing.parting(plain(), last()))
            self.assertEqual([call(other, wanted) for call in (keeping.least_parts, keeping.needless, keeping.repairs)],
                             [None, (1,), (0, 2)])
            self.assertEqual((keeping.swaps(one), deciding.faults(other)), ((0, 1), ("fallen", "missed", "order")))
            thing.within(lambda it: it.several(["send 0", "hear 0"]))
            self.assertEqual((len(thing), len(thing.story), table.say("faults")), (0, 0, "fallen missed order"))
        self.assertEqual((str(one), str(other), wanted), (*texts, ["false", "order"]))
        self.assertIs(thing.tool, one)

    def test_what_the_newer_modules_return_may_be_passed_on(self):
        parted = comparing.parting(plain(), last())
        self.assertNotEqual(runs.play(plain(), parted).told, runs.play(last(), parted).told)
        self.assertEqual(runs.lacking(last(), parted.more(["edit a b:1", "hear 0"]), 0), (0,))
        self.assertEqual(keeping.swaps(comparing.merged(third())), (0, 1))
        self.assertEqual(plain().heeding(keeping.least_parts(plain(), ["false"])), plain().heeding([]))
        thing = live.Live(comparing.merged(third()), parted.first, parted.machines)
        self.assertEqual(thing.several(parted.events)[-1], runs.play(plain(), parted).told)
        self.assertEqual(deciding.faults(thing.tool), ())
        for fault in FAULTS:
            found = papers.paper(thing.tool, fault)
            for value in (found, tuple(part[::-1] for part in found), tuple(part * 40 for part in found)):
                self.assertIs(papers.paper_holds(thing.tool, fault, value), True)
            renamed = tuple(tuple((mark.replace("run", "x"), known) for mark, known in part) for part in found)
            for value in (list(found), tuple(list(part) for part in found), tuple(part[1:] for part in found),
                          tuple(tuple(list(pair) for pair in part) for part in found), renamed):
                self.assertIs(papers.paper_holds(thing.tool, fault, value), False)

    def test_texts_as_long_as_the_limit(self):
        lines = ["marks aaaa bbbb cccc dddd eeee", "told bbbb cccc dddd eeee", "parts above below own", "send clear"]
        lines += ["lead not above and not below and not own bbbb to cccc"] * 16
        text = "\n".join(lines)
        self.assertEqual(str(tools.Tool.read(text)), text)
        lines += ["join aaaa bbbb to cccc"] * 20
        self.assertEqual(len(tools.Tool.read("\n".join(lines))), 36)


class TestForm(unittest.TestCase):
    def test_the_package_is_empty_but_for_a_docstring(self):
        body = ast.parse((PACKAGE / "__init__.py").read_text()).body
        self.assertEqual(len(body), 1)
        self.assertIsInstance(body[0].value.value, str)
        self.assertEqual(ledmarks.__doc__, body[0].value.value)

    def test_only_python_files(self):
        for path in PACKAGE.rglob("*"):
            if "__pycache__" not in path.parts and path.is_file():
                self.assertEqual(path.suffix, ".py")

    def test_characters_and_sizes(self):
        for path in FILES:
            text = path.read_bytes()
            self.assertLessEqual(set(text), {10, *range(32, 127)}, path)
            lines = text.split(b"\n")
            self.assertLess(len(lines), 400, path)
            self.assertLessEqual(max(len(line) for line in lines), 120, path)

    def test_functions_are_small(self):
        for path in FILES:
            for node in ast.walk(ast.parse(path.read_text())):
                if isinstance(node, ast.FunctionDef):
                    self.assertLessEqual(node.end_lineno - node.lineno + 1, 40, (path, node.name))

    def test_imports_come_from_the_file_that_defines_the_name(self):
        for path in FILES:
            for node in ast.walk(ast.parse(path.read_text())):
                self.assertNotIsInstance(node, ast.Import, path)
                if isinstance(node, ast.ImportFrom):
                    self.assertEqual((node.level, node.module.split(".")[0]), (0, "ledmarks"))
                    source = ROOT / (node.module.replace(".", "/") + ".py")
                    self.assertLessEqual({name.name for name in node.names}, defined(source), path)

    def test_any_and_all_take_lists(self):
        for path in FILES:
            for node in ast.walk(ast.parse(path.read_text())):
                self.assertNotIsInstance(node, ast.GeneratorExp, path)

    def test_the_readme(self):
        told = doctest.testfile(str(ROOT / "README.md"), module_relative=False)
        self.assertGreater(told.attempted, 0)
        self.assertEqual(told.failed, 0)


def defined(path):
    names = set()
    for node in ast.parse(path.read_text()).body:
        if isinstance(node, (ast.FunctionDef, ast.ClassDef)):
            names.add(node.name)
        if isinstance(node, ast.Assign):
            names.add(node.targets[0].id)
    return names


if __name__ == "__main__":
    unittest.main()
