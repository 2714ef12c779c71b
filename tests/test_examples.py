"""The examples that the document gives, word for word."""

import unittest

from lastprices import errors
from lastprices.base import machines, words
from lastprices.read import combined, prices
from lastprices.rows import tables
from lastprices.signs import costs, patterns, squares, webs
from tests.examples import check_examples

MACHINES = '''
BLOCK = Machine.from_lines("first p", "last r", "arc p a 0 p", "arc p b 0 p", "arc p b 0 q", "arc q a 1 q",
    "arc q b 0 r", "arc r a 0 r", "arc r b 0 r")
COUNT = Machine.from_lines("first c", "last c", "arc c a 0 c", "arc c b 1 c")
'''

STAGE_1 = '''
>>> [is_integer(-7), is_count(True), is_name("Queue"), is_letter("ab"), is_text("")]
[True, False, False, False, True]
'''

STAGE_2 = '''
>>> [str(BLOCK), BLOCK.states, BLOCK.letters, BLOCK.steps("p", "b"), BLOCK.lines[:3]]
['machine with 3 states, 7 arcs', ('p', 'q', 'r'), ('a', 'b'), (('p', 0), ('q', 0)), ('first p', 'last r', 'arc p a 0 p')]
>>> [len(COUNT.with_arc("c", "d", "e", 9)), COUNT.without_arc("c", "a", "c").letters, COUNT.renamed({"c": "only"}).lasts]
[2, ('b',), ('only',)]
'''

STAGE_3 = '''
>>> [price_of(BLOCK, "abaabab"), price_of(BLOCK, "ab"), runs_of(BLOCK, "bbb"), cheapest(BLOCK, "baab"), run_price(COUNT, "bab", ("c",) * 4)]
[1, None, 2, ('p', 'q', 'q', 'q', 'r'), 2]
>>> [count_taken(BLOCK, 3), list(each_taken(BLOCK, 3)), price_of(COUNT, ""), is_taken(COUNT, "abc")]
[4, ['abb', 'bab', 'bba', 'bbb'], 0, False]
'''

STAGE_4 = '''
>>> deal = BLOCK | COUNT
>>> [len(deal), deal("babab"), deal("baaaab"), (~BLOCK)("abaab"), both(COUNT, BLOCK).states[-1], "ab" in deal]
[4, 1, 2, 2, 'qc', True]
>>> odd = Machine.from_lines("first s", "last t", "arc s a 3 t", "arc t a 0 s")
>>> [pieces(odd)("aaaa"), pieces(odd)(""), (COUNT * odd)("bba"), len(trimmed(odd.with_arc("s", "b", "u", 0))), stepped(odd)("aaa")]
[2, 0, 5, 2, 3]
'''

STAGE_5 = '''
>>> a, b = Square.of_text(BLOCK, "a"), Square.of_text(BLOCK, "b")
>>> [str(a), str(b), a.is_stable, str(a.repeated()), str(b * a.repeated() * b), (b * a * b).between(BLOCK), b[0, 1]]
['0../.1./..0', '00./..0/..0', True, '0../.n./..0', '00n/..0/..0', '1', '0']
>>> steps = Costs.of_text(BLOCK, "a")
>>> [steps.rows, (steps ** 10 ** 50)[1, 1] == 10 ** 50, Costs.of_text(BLOCK, "baab").between(BLOCK), str(steps.signs)]
[((0, -1, -1), (-1, 1, -1), (-1, -1, 0)), True, 2, '0../.1./..0']
'''

STAGE_6 = '''
>>> one = Pattern("b(a)#b")
>>> [one(3), one.depth, one.parts, one.is_growing(BLOCK), one.is_growing(COUNT), one.costs(BLOCK, 10 ** 40).between(BLOCK) == 10 ** 40]
['baaab', 1, ('a',), True, False, True]
>>> nested = Pattern("(b(a)#b(a)#)#")
>>> [nested(2), nested.parts, nested.is_growing(deal), nested.weight, nested.length(10), str(one + one), len(nested)]
['baabaabaabaa', ('a', 'a', 'b(a)#b(a)#'), True, 12, 220, 'b(a)#bb(a)#b', 4]
>>> Pattern("(b(a)#)#").square(deal)
raises Unstable
'''

STAGE_7 = '''
>>> web = Web(COUNT)
>>> [str(web), web.squares, web.growing, web.stable]
['web of 3 squares, 1 growing', (('0',), ('1',), ('n',)), (('n',),), (('0',), ('1',), ('n',))]
'''

STAGE_8 = '''
>>> table = Table(COUNT, 1)
>>> [str(table), table.rows, table.wrong, table.text_to((2,)), table.after((1,), "a")]
['table of 3 rows up to 1, 1 wrong', ((0,), (1,), (2,)), ((2,),), 'bb', (1,)]
>>> [row_of(BLOCK, 3, "ba"), price_in(BLOCK, 3, row_of(BLOCK, 3, "baaaaab")), first_row(BLOCK, 0), len(Table(odd, 9))]
[(0, 1, -1), 4, (0, -1, -1), 9]
'''

# Stages of which each uses what an earlier one has made.
STAGES = (STAGE_1, STAGE_2, STAGE_3, STAGE_4, STAGE_5, STAGE_6, STAGE_7, STAGE_8)

# What is said of the machines of the examples beside these.
WORDS = '''
>>> [text for text in ("", "b", "aba", "bb", "abab", "baaab") if text in BLOCK]
['bb', 'abab', 'baaab']
>>> [BLOCK("baaabab"), BLOCK("abaaaba"), COUNT("abba"), deal("baaaab"), deal("baab")]
[1, 3, 2, 2, 2]
>>> [Web(BLOCK).growing != (), Web(COUNT).growing != (), Web(deal).growing != (), Pattern("(b(a)#b(a)#)#").is_growing(deal)]
[True, True, True, True]
'''


class ExamplesTest(unittest.TestCase):
    def test_stages(self):
        names = {}
        for module in (errors, words, machines, prices, combined, costs, squares, patterns, webs, tables):
            names.update(vars(module))
        exec(MACHINES, names)
        for text in (*STAGES, WORDS):
            check_examples(self, names, text)

    def test_machines_of_the_examples(self):
        names = {"Machine": machines.Machine}
        exec(MACHINES, names)
        self.assertEqual(names["BLOCK"].arcs, {
            ("p", "a", "p"): 0, ("p", "b", "p"): 0, ("p", "b", "q"): 0, ("q", "a", "q"): 1,
            ("q", "b", "r"): 0, ("r", "a", "r"): 0, ("r", "b", "r"): 0})
        self.assertEqual((names["BLOCK"].firsts, names["BLOCK"].lasts), (("p",), ("r",)))
        self.assertEqual(names["COUNT"].arcs, {("c", "a", "c"): 0, ("c", "b", "c"): 1})
        self.assertEqual((names["COUNT"].firsts, names["COUNT"].lasts), (("c",), ("c",)))
