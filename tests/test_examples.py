"""The examples that the document gives, word for word."""

import unittest

from lastprices import errors
from lastprices.base import machines, words
from lastprices.decide import alike, dear, papers, powers, rings
from lastprices.read import combined, prices
from lastprices.rows import tables
from lastprices.signs import costs, patterns, squares, webs
from lastprices.text import shell, texts
from lastprices.use import bench
from tests.examples import check_examples

MACHINES = '''
BLOCK = Machine.from_lines("first p", "last r", "arc p a 0 p", "arc p b 0 p", "arc p b 0 q", "arc q a 1 q",
    "arc q b 0 r", "arc r a 0 r", "arc r b 0 r")
COUNT = Machine.from_lines("first c", "last c", "arc c a 0 c", "arc c b 1 c")
'''

STAGE_1 = '''
>>> [is_integer(-7), is_count(True), is_name("Queue"), is_letter("ab"), is_text("")]
[True, False, False, False, True]
'''

STAGE_2 = '''
>>> [str(BLOCK), BLOCK.states, BLOCK.letters, BLOCK.steps("p", "b"), BLOCK.lines[:3]]
['machine with 3 states, 7 arcs', ('p', 'q', 'r'), ('a', 'b'), (('p', 0), ('q', 0)), ('first p', 'last r', 'arc p a 0 p')]
>>> [len(COUNT.with_arc("c", "d", "e", 9)), COUNT.without_arc("c", "a", "c").letters, COUNT.renamed({"c": "only"}).lasts]
[2, ('b',), ('only',)]
'''

STAGE_3 = '''
>>> [price_of(BLOCK, "abaabab"), price_of(BLOCK, "ab"), runs_of(BLOCK, "bbb"), cheapest(BLOCK, "baab"), run_price(COUNT, "bab", ("c",) * 4)]
[1, None, 2, ('p', 'q', 'q', 'q', 'r'), 2]
>>> [count_taken(BLOCK, 3), list(each_taken(BLOCK, 3)), price_of(COUNT, ""), is_taken(COUNT, "abc")]
[4, ['abb', 'bab', 'bba', 'bbb'], 0, False]
'''

STAGE_4 = '''
>>> deal = BLOCK | COUNT
>>> [len(deal), deal("babab"), deal("baaaab"), (~BLOCK)("abaab"), both(COUNT, BLOCK).states[-1], "ab" in deal]
[4, 1, 2, 2, 'qc', True]
>>> odd = Machine.from_lines("first s", "last t", "arc s a 3 t", "arc t a 0 s")
>>> [pieces(odd)("aaaa"), pieces(odd)(""), (COUNT * odd)("bba"), len(trimmed(odd.with_arc("s", "b", "u", 0))), stepped(odd)("aaa")]
[2, 0, 5, 2, 3]
'''

STAGE_5 = '''
>>> a, b = Square.of_text(BLOCK, "a"), Square.of_text(BLOCK, "b")
>>> [str(a), str(b), a.is_stable, str(a.repeated()), str(b * a.repeated() * b), (b * a * b).between(BLOCK), b[0, 1]]
['0../.1./..0', '00./..0/..0', True, '0../.n./..0', '00n/..0/..0', '1', '0']
>>> steps = Costs.of_text(BLOCK, "a")
>>> [steps.rows, (steps ** 10 ** 50)[1, 1] == 10 ** 50, Costs.of_text(BLOCK, "baab").between(BLOCK), str(steps.signs)]
[((0, -1, -1), (-1, 1, -1), (-1, -1, 0)), True, 2, '0../.1./..0']
'''

STAGE_6 = '''
>>> one = Pattern("b(a)#b")
>>> [one(3), one.depth, one.parts, one.is_growing(BLOCK), one.is_growing(COUNT), one.costs(BLOCK, 10 ** 40).between(BLOCK) == 10 ** 40]
['baaab', 1, ('a',), True, False, True]
>>> nested = Pattern("(b(a)#b(a)#)#")
>>> [nested(2), nested.parts, nested.is_growing(deal), nested.weight, nested.length(10), str(one + one), len(nested)]
['baabaabaabaa', ('a', 'a', 'b(a)#b(a)#'), True, 12, 220, 'b(a)#bb(a)#b', 4]
>>> Pattern("(b(a)#)#").square(deal)
raises Unstable
'''

STAGE_7 = '''
>>> web = Web(COUNT)
>>> [str(web), web.squares, web.growing, web.stable]
['web of 3 squares, 1 growing', (('0',), ('1',), ('n',)), (('n',),), (('0',), ('1',), ('n',))]
'''

STAGE_8 = '''
>>> table = Table(COUNT, 1)
>>> [str(table), table.rows, table.wrong, table.text_to((2,)), table.after((1,), "a")]
['table of 3 rows up to 1, 1 wrong', ((0,), (1,), (2,)), ((2,),), 'bb', (1,)]
>>> [row_of(BLOCK, 3, "ba"), price_in(BLOCK, 3, row_of(BLOCK, 3, "baaaaab")), first_row(BLOCK, 0), len(Table(odd, 9))]
[(0, 1, -1), 4, (0, -1, -1), 9]
'''

STAGE_9 = '''
>>> MARK = Machine.from_lines("first c", "last c d", "arc c b 0 c", "arc c a 1 d", "arc d a 0 d", "arc d b 0 d")
>>> [last_price(MARK), worst_text(MARK), is_limited(deal), last_price(COUNT), last_price(free(BLOCK)), worst_text(free(BLOCK))]
[1, 'a', False, None, 0, 'bb']
>>> [is_paper(MARK, ("enough", 1, ((-1, 1), (0, -1)))), is_paper(MARK, ("enough", 0, ((-1, 1), (0, -1)))), is_paper(deal, ("grows", "(b(a)#b(a)#)#"))]
[True, False, True]
>>> [is_paper(deal, ("grows", "b(a)#b")), paper(deal)[0], paper(MARK)[:2], rows_from(MARK, 1, ((0, 1),))]
[False, 'grows', ('enough', 1), ((-1, 1), (0, 1))]
'''

STAGE_10 = '''
>>> [dear_text(BLOCK, 2), dear_text(MARK, 2), prices_of(BLOCK, 3), prices_of(COUNT, 4), dearest(BLOCK, 5)]
['baab', None, {0: 3, 1: 1}, {0: 1, 1: 4, 2: 6, 3: 4, 4: 1}, 'baaab']
>>> [list(each_priced(BLOCK, 3, 0)), count_priced(COUNT, 200, 1), priced_at(COUNT, 4, 2, 5), number_of(COUNT, "baab")]
[['abb', 'bba', 'bbb'], 200, 'bbaa', 3]
'''

STAGE_11 = '''
>>> [run_bound(MARK), run_bound(COUNT), dear_ring(COUNT), dear_ring(BLOCK), is_dear_ring(BLOCK, ("b", "aa", "ba"))]
[1, None, ('', 'b', ''), ('b', 'a', 'b'), True]
>>> [two_runs(BLOCK), is_unambiguous(deal), is_deterministic(COUNT), is_deterministic(BLOCK), dearest_run(odd), dearest_run(free(odd))[0] in odd]
[('bbb', ('p', 'p', 'q', 'r'), ('p', 'q', 'r', 'r')), False, True, False, None, True]
'''

STAGE_12 = '''
>>> [parting_text(COUNT, stepped(COUNT), up_to=3), parting_text(COUNT, deal, up_to=0), dearer_text(COUNT, BLOCK, up_to=1), dearer_text(deal, COUNT, up_to=9)]
['a', 'bb', 'bb', None]
>>> [are_alike(MARK, MARK | MARK), are_ordered(free(MARK), MARK), are_ordered(MARK, free(MARK)), takes_less(BLOCK, COUNT), takes_alike(MARK, COUNT)]
[True, True, False, '', True]
'''

STAGE_13 = '''
>>> ABS = Machine.from_lines("first s", "last t", "arc s a 0 s", "arc s b 0 t")
>>> [power(odd), has_finite_power(ABS), power(free(BLOCK)), least_pieces(odd, "aaaa"), splits_of(odd, "aaaa"), powers_taken(odd, "aaaaa")]
[2, False, 1, 2, 3, (1, 3, 5)]
>>> [split(ABS, "abaab"), is_split(odd, "aaaa", ("a", "a", "a", "a")), is_split(odd, "aaaa", ("aa", "aa")), least_pieces(ABS, ""), least_pieces(ABS, "a")]
[('ab', 'aab'), True, False, 0, None]
'''

STAGE_14 = '''
>>> bench = Bench(MARK)
>>> [bench.demand(("most", 3)), bench.draw("arc d a 2 c"), bench.undo(), str(bench), bench.during(lambda same: same.draw("arc c a 3 d"))]
[(), (), (), 'bench with 6 lines, 1 pledges', (1, 3)]
>>> bench.draw("arc d a 1 d")
raises Refused
>>> [bench.waive(("most", 3)), bench.draw("arc d a 1 d"), bench.last, "arc d a 0 d" in bench, bench.undo(many=2)]
[(), (1, None), None, False, (None, 1)]
'''

STAGE_15 = '''
>>> [write_row((0, 1, -1)), read_row("- 2"), write_paper(("enough", 1, ((-1, 1), (0, -1)))), read_paper("grows (b)#"), read_square("01/.n")]
['0 1 -', (-1, 2), 'enough 1\\n- 1\\n0 -', ('grows', '(b)#'), ('01', '.n')]
'''

STAGE_16 = '''
>>> shell = Shell(write_machine(MARK))
>>> [shell("last"), shell("worst"), shell("price bb"), shell("demand costs ba 1"), shell("draw arc d a 1 d"), shell("grows a(a)#")]
['1', 'a', '0', 'nothing', 'from 1 to none', 'yes']
>>> [shell("paper")[:5], shell("undo"), shell("paper"), shell("square ab"), shell("row a 5"), shell("split aba"), shell("draw x"), len(shell)]
['grows', 'from none to 1', 'enough 1', '.1/.0', '- 1', 'aba', 'line', 12]
'''

# Stages of which each uses what an earlier one has made.
STAGES = (STAGE_1, STAGE_2, STAGE_3, STAGE_4, STAGE_5, STAGE_6, STAGE_7, STAGE_8, STAGE_9, STAGE_10, STAGE_11, STAGE_12,
    STAGE_13, STAGE_14, STAGE_15, STAGE_16)

# What is said of the machines of the examples beside these.
WORDS = '''
>>> [text for text in ("", "b", "aba", "bb", "abab", "baaab") if text in BLOCK]
['bb', 'abab', 'baaab']
>>> [BLOCK("baaabab"), BLOCK("abaaaba"), COUNT("abba"), deal("baaaab"), deal("baab")]
[1, 3, 2, 2, 2]
>>> [Web(BLOCK).growing != (), Web(COUNT).growing != (), Web(deal).growing != (), Pattern("(b(a)#b(a)#)#").is_growing(deal)]
[True, True, True, True]
'''


class ExamplesTest(unittest.TestCase):
    def test_stages(self):
        names = {}
        for module in (errors, words, machines, prices, combined, costs, squares, patterns, webs, tables, papers, dear, rings,
                alike, powers, bench, texts, shell):
            names.update(vars(module))
        exec(MACHINES, names)
        for text in (*STAGES, WORDS):
            check_examples(self, names, text)

    def test_machines_of_the_examples(self):
        names = {"Machine": machines.Machine}
        exec(MACHINES, names)
        self.assertEqual(names["BLOCK"].arcs, {
            ("p", "a", "p"): 0, ("p", "b", "p"): 0, ("p", "b", "q"): 0, ("q", "a", "q"): 1,
            ("q", "b", "r"): 0, ("r", "a", "r"): 0, ("r", "b", "r"): 0})
        self.assertEqual((names["BLOCK"].firsts, names["BLOCK"].lasts), (("p",), ("r",)))
        self.assertEqual(names["COUNT"].arcs, {("c", "a", "c"): 0, ("c", "b", "c"): 1})
        self.assertEqual((names["COUNT"].firsts, names["COUNT"].lasts), (("c",), ("c",)))
