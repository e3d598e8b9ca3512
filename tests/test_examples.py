"""The examples of the document, as they stand there."""

import doctest
import pathlib
import unittest

DOCUMENT = pathlib.Path(__file__).resolve().parent.parent.parent / "shared" / "DOC.md"

EXAMPLES = r'''
Section 1:

    >>> from ledmarks.deciding import faults, fewest
    >>> from ledmarks.tools import Tool
    >>> lines = ["marks none run", "told run", "parts own", "send clear", "run any to run", "lead own run to run", "join any run to run"]
    >>> plain, near = Tool.read("\n".join(lines)), Tool.read("\n".join(lines).replace("parts own", "parts own above below"))
    >>> last = Tool.read("\n".join(lines[:6] + ["join any any to came"]))
    >>> faults(plain), faults(near), fewest(near, "false"), faults(last), fewest(last, "missed"), fewest(last, "order")
    ((), ('false',), 1, ('fallen', 'missed', 'order'), 2, 0)

Behind [8]:

    >>> plain.led("run", (False, True, False)), plain.led("run", (True, False, True)), near.keeps((True, True, False)), plain.joined("none", "run")
    ('run', 'none', False, 'run')

Behind [14]:

    >>> from ledmarks.editions import Edition
    >>> from ledmarks.runs import play
    >>> from ledmarks.stories import Story
    >>> played = play(plain, Story(Edition.read("a b c"), 1, ["run 0 0 1", "edit a:0 x:1 c:2 b", "send 0", "hear 0"]))
    >>> played.marks, played.known, played.sent, played.told, played.met
    (('run', 'none', 'none', 'none'), (True, False, False, False), ((0, ('run', 'run', 'none'), (True, True, False)),), (0,), ())
    >>> from ledmarks.runs import lacking
    >>> lacking(plain, Story(Edition.read("a b c"), 1, ["run 0 0 1", "edit a:0 x:1 c:2 b", "send 0", "hear 0"]), 0)
    (1, 3)

Behind [16]:

    >>> from ledmarks.deciding import lists
    >>> lists(plain), lists(near)[1], lists(last)[1]
    (((('none', False), ('run', True)), (('none', False), ('run', True))), (('none', False), ('run', False), ('run', True)), (('none', False), ('none', True), ('run', True)))

Behind [17]:

    >>> from ledmarks.papers import paper, paper_holds
    >>> paper_holds(plain, "false", lists(plain)), paper_holds(near, "false", lists(near)), paper(near, "false"), paper_holds(plain, "false", ((), ()))
    (True, False, None, False)

Behind [18]:

    >>> from ledmarks.keeping import least_parts, needless
    >>> least_parts(plain, ["fallen", "false"]), least_parts(near, ["false"]), least_parts(near, ["fallen", "false"]), needless(plain, ["false"])
    (('own',), (), None, (0, 1, 2))

Behind [19]:

    >>> from ledmarks.comparing import alike, merged, parting, twins
    >>> third = Tool.read("marks none run old\ntold run old\nparts own\nsend clear\nrun any to run\nlead own any to old\njoin none any to came")
    >>> twins(third), len(merged(third).marks), alike(third, plain), alike(plain, last)
    ((('none',), ('run', 'old')), 2, True, False)

Behind [22]:

    >>> from ledmarks.desk import Desk
    >>> desk = Desk()
    >>> desk.say("tool " + " ; ".join(lines)), desk.say("begin 1 a b"), desk.say("do run 0 1"), desk.say("do send 0"), desk.say("do hear 0"), desk.say("mark 1")
    ('3', '2', '-', '-', '1', 'run known')
    >>> desk.say("do edit a:0 x:1"), desk.say("faults"), desk.say("fewest false"), desk.say("undo"), desk.say("mark 0")
    ('-', 'never', 'never', 'undone', 'none')
'''


def examples(text):
    return [(example.source, example.want) for example in doctest.DocTestParser().get_examples(text)]


class TestExamples(unittest.TestCase):
    def test_examples(self):
        test = doctest.DocTestParser().get_doctest(EXAMPLES, {}, "DOC.md", None, 0)
        told = doctest.DocTestRunner().run(test)
        self.assertEqual((told.failed, told.attempted), (0, 27))

    @unittest.skipUnless(DOCUMENT.exists(), "the document is not here")
    def test_these_are_the_examples_of_the_document(self):
        self.assertEqual(examples(EXAMPLES), examples(DOCUMENT.read_text()))


if __name__ == "__main__":
    unittest.main()
