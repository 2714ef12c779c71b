"""The examples that the document gives, word for word."""

import unittest

from lastprices.base import machines, words
from tests.examples import check_examples

MACHINES = '''
BLOCK = Machine.from_lines("first p", "last r", "arc p a 0 p", "arc p b 0 p", "arc p b 0 q", "arc q a 1 q",
    "arc q b 0 r", "arc r a 0 r", "arc r b 0 r")
COUNT = Machine.from_lines("first c", "last c", "arc c a 0 c", "arc c b 1 c")
'''

STAGE_1 = '''
>>> [is_integer(-7), is_count(True), is_name("Queue"), is_letter("ab"), is_text("")]
[True, False, False, False, True]
'''

STAGE_2 = '''
>>> [str(BLOCK), BLOCK.states, BLOCK.letters, BLOCK.steps("p", "b"), BLOCK.lines[:3]]
['machine with 3 states, 7 arcs', ('p', 'q', 'r'), ('a', 'b'), (('p', 0), ('q', 0)), ('first p', 'last r', 'arc p a 0 p')]
>>> [len(COUNT.with_arc("c", "d", "e", 9)), COUNT.without_arc("c", "a", "c").letters, COUNT.renamed({"c": "only"}).lasts]
[2, ('b',), ('only',)]
'''


class ExamplesTest(unittest.TestCase):
    def test_stage_1(self):
        check_examples(self, dict(vars(words)), STAGE_1)

    def test_stage_2(self):
        names = {"Machine": machines.Machine}
        exec(MACHINES, names)
        check_examples(self, names, STAGE_2)

    def test_machines_of_the_examples(self):
        names = {"Machine": machines.Machine}
        exec(MACHINES, names)
        self.assertEqual(names["BLOCK"].arcs, {
            ("p", "a", "p"): 0, ("p", "b", "p"): 0, ("p", "b", "q"): 0, ("q", "a", "q"): 1,
            ("q", "b", "r"): 0, ("r", "a", "r"): 0, ("r", "b", "r"): 0})
        self.assertEqual((names["BLOCK"].firsts, names["BLOCK"].lasts), (("p",), ("r",)))
        self.assertEqual(names["COUNT"].arcs, {("c", "a", "c"): 0, ("c", "b", "c"): 1})
        self.assertEqual((names["COUNT"].firsts, names["COUNT"].lasts), (("c",), ("c",)))
