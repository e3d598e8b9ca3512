"""The examples of the document, as far as the modules that there are can do them."""

import doctest
import unittest

EXAMPLES = r'''
Section 1:

    >>> from ledmarks.deciding import faults, fewest
    >>> from ledmarks.tools import Tool
    >>> lines = ["marks none run", "told run", "parts own", "send clear", "run any to run", "lead own run to run", "join any run to run"]
    >>> plain, near = Tool.read("\n".join(lines)), Tool.read("\n".join(lines).replace("parts own", "parts own above below"))
    >>> last = Tool.read("\n".join(lines[:6] + ["join any any to came"]))
    >>> faults(plain), faults(near), fewest(near, "false"), faults(last), fewest(last, "missed"), fewest(last, "order")
    ((), ('false',), 1, ('fallen', 'missed', 'order'), 2, 0)

Behind [8]:

    >>> plain.led("run", (False, True, False)), plain.led("run", (True, False, True)), near.keeps((True, True, False)), plain.joined("none", "run")
    ('run', 'none', False, 'run')

Behind [14]:

    >>> from ledmarks.editions import Edition
    >>> from ledmarks.runs import play
    >>> from ledmarks.stories import Story
    >>> played = play(plain, Story(Edition.read("a b c"), 1, ["run 0 0 1", "edit a:0 x:1 c:2 b", "send 0", "hear 0"]))
    >>> played.marks, played.known, played.sent, played.told, played.met
    (('run', 'none', 'none', 'none'), (True, False, False, False), ((0, ('run', 'run', 'none'), (True, True, False)),), (0,), ())
    >>> from ledmarks.runs import lacking
    >>> lacking(plain, Story(Edition.read("a b c"), 1, ["run 0 0 1", "edit a:0 x:1 c:2 b", "send 0", "hear 0"]), 0)
    (1, 3)

Behind [16]:

    >>> from ledmarks.deciding import lists
    >>> lists(plain), lists(near)[1], lists(last)[1]
    (((('none', False), ('run', True)), (('none', False), ('run', True))), (('none', False), ('run', False), ('run', True)), (('none', False), ('none', True), ('run', True)))

Behind [17]:

    >>> from ledmarks.papers import paper, paper_holds
    >>> paper_holds(plain, "false", lists(plain)), paper_holds(near, "false", lists(near)), paper(near, "false"), paper_holds(plain, "false", ((), ()))
    (True, False, None, False)
'''


class TestExamples(unittest.TestCase):
    def test_examples(self):
        test = doctest.DocTestParser().get_doctest(EXAMPLES, {}, "DOC.md", None, 0)
        told = doctest.DocTestRunner().run(test)
        self.assertEqual((told.failed, told.attempted), (0, 18))


if __name__ == "__main__":
    unittest.main()
