"""Machines, rows, squares and papers as texts."""

import unittest

from lastprices.base.machines import Machine
from lastprices.decide.papers import is_paper, paper
from lastprices.errors import InvalidMachine, InvalidPaper, InvalidRow, InvalidSquare, ParseError
from lastprices.rows.tables import Table
from lastprices.text.texts import (read_machine, read_paper, read_row, read_square, write_machine, write_paper, write_row,
    write_square)
from tests.force import some_machines
from tests.test_papers import counting_chain
from tests.test_squares import NO_SQUARES, some_squares
from tests.values import (BLOCK, COUNT, DEAL, MARK, NAMES_24, NO_MACHINES, NO_STRINGS, check_refused, shown, told_of)

GOOD_ROWS = [(0,), (-1,), (201,), (0, 1, -1), (-1,) * 24, (201,) * 24, (10, 100, 200)]
NO_FORMED_ROWS = [value for value in NO_STRINGS] + ["", "0", "0 1", (), [0], (202,), (-2,), (True,), (0, False), (None,), ("0",), ((0,),),
    (0,) * 25, (10 ** 60,), (-(10 ** 99),), (0, [1]), {0: 0}, (0, 1, 202)]

GOOD_PAPERS = [("enough", 0, ((0,),)), ("enough", 1, ((-1, 1), (0, -1))), ("enough", 200, ((-1,), (0,), (201,))),
    ("enough", 3, ((-1,) * 24, (4,) * 24)), ("grows", "a"), ("grows", "(b(a)#b(a)#)#"), ("grows", "a" * 20000)]
NO_PAPERS = [*NO_STRINGS, "", "grows a", "enough 0\n0", ("enough", 0, ()), ("enough", 0, [(0,)]), ("enough", 0, ([0],)), ["enough", 0, ((0,),)],
    ("enough", -1, ((0,),)), ("enough", 201, ((0,),)), ("enough", True, ((0,),)), ("enough", None, ((0,),)), ("enough", "0", ((0,),)),
    ("enough", 0, ((2,),)), ("enough", 0, ((0,), (0,))), ("enough", 0, ((1,), (0,))), ("enough", 0, ((0,), (0, 1))),
    ("enough", 0, ((0, 1), (1,))), ("enough", 0, ((True,),)), ("enough", 1, ((False,), (1,))), ("enough", 0, ((),)), ("enough", 0, ((0,) * 25,)),
    ("enough", 0, ((-2,),)), ("enough", 0, (0,)), ("enough", 0, None), ("enough", 0), ("enough",), ("enough", 0, ((0,),), 1),
    ("enough", 10 ** 99, ((0,),)), ("Enough", 0, ((0,),)), ("grows",), ("grows", ""), ("grows", "(a"), ("grows", "A"), ("grows", None),
    ("grows", ("a",)), ("grows", "a", 1), ("grows", 0, ((0,),)), ("grows", "a" * 20001), ["grows", "a"], (None, "a"), (True, 0, ((0,),))]


class MachineTest(unittest.TestCase):
    def test_there_and_back(self):
        for machine in [BLOCK, COUNT, DEAL, MARK, Machine(("s",), ("t",), {}), *some_machines(30)]:
            text = write_machine(machine)
            self.assertEqual(text.split("\n"), list(machine.lines))
            self.assertEqual(told_of(read_machine(text)), told_of(machine))
            # Lines can be read in any order.
            self.assertEqual(read_machine("\n".join(reversed(text.split("\n")))), machine)

    def test_what_is_no_machine(self):
        check_refused(self, InvalidMachine, [write_machine], NO_MACHINES)

    def test_what_cannot_be_read(self):
        for value in NO_STRINGS:
            with self.assertRaises(ParseError, msg=shown(value)) as caught:
                read_machine(value)
            self.assertIs(caught.exception.number, None)
        text = write_machine(COUNT)
        for wrong, number in (("", 0), ("\n", 0), ("\n" + text, 0), (text + "\n", 4), (text.replace("\n", "\n\n", 1), 1), (" " + text, 0),
                (text.replace("first", "First"), 0), (text.replace(" ", "  "), 0), (text.replace("0", "00"), 2), (text.replace("1", "+1"), 3),
                (text.replace("1", "-1"), 3), (text.replace("\n", "\r\n"), 0), (text + "\n" + text, 4), (text + "\narc c b 2 c", 4), (text + " ", 3),
                ("a" * 100001, 0), (text.replace("\n", "\t"), 0), (text + "\nlast d", 4), ("x\ny", 0)):
            with self.assertRaises(ParseError, msg=shown(wrong)) as caught:
                read_machine(wrong)
            self.assertEqual(caught.exception.number, number, shown(wrong))
        for wrong in ("first c", "last c", "arc c a 0 c", "first c\narc c a 0 c", "first " + " ".join(NAMES_24) + "\nlast qy"):
            with self.assertRaises(InvalidMachine, msg=wrong):
                read_machine(wrong)


class RowTest(unittest.TestCase):
    def test_there_and_back(self):
        self.assertEqual([write_row(row) for row in GOOD_ROWS[:4]], ["0", "-", "201", "0 1 -"])
        for row in GOOD_ROWS + list(Table(BLOCK, 3)):
            self.assertEqual(read_row(write_row(row)), row)

    def test_what_is_no_row(self):
        check_refused(self, InvalidRow, [write_row], [value for value in NO_FORMED_ROWS if value not in GOOD_ROWS])
        self.assertEqual(write_row((-1,) * 24), " ".join("-" * 24))

    def test_what_cannot_be_read(self):
        for value in [*NO_STRINGS, "", " ", "0 ", " 0", "0  1", "01", "00", "-0", "-1", "+1", "202", "1000", "--", "- -1", "0,1", "0\n1", "0\n",
                "a", "0 a", "1_0", "0x1", "1.0", "1" * 4000, " ".join("0" * 25), "\u0661", "\u00b2", "0\t1"]:
            with self.assertRaises(ParseError, msg=shown(value)) as caught:
                read_row(value)
            self.assertIs(caught.exception.number, None)
        self.assertEqual([read_row("201"), read_row(" ".join("0" * 24)), read_row("- 2")], [(201,), (0,) * 24, (-1, 2)])


class SquareTest(unittest.TestCase):
    def test_there_and_back(self):
        for rows in [*some_squares(50), ("0" * 24,) * 24, (".",)]:
            self.assertEqual([write_square(rows), read_square(write_square(rows))], ["/".join(rows), rows])

    def test_what_is_no_square(self):
        check_refused(self, InvalidSquare, [write_square], NO_SQUARES)
        for value in [*NO_STRINGS, "", "/", "0/", "/0", "0n/.2", "0n/.", "0n", "01/.n/", "01 /.n", "01\n.n", "0N/..", "01/.n\n", "/".join(["0" * 25] * 25)]:
            with self.assertRaises(ParseError, msg=shown(value)) as caught:
                read_square(value)
            self.assertIs(caught.exception.number, None)


class PaperTest(unittest.TestCase):
    def test_there_and_back(self):
        self.assertEqual(write_paper(GOOD_PAPERS[2]), "enough 200\n-\n0\n201")
        for value in [*GOOD_PAPERS, paper(MARK), paper(DEAL), *[paper(machine) for machine in some_machines(20)]]:
            self.assertEqual(read_paper(write_paper(value)), value)
        self.assertIs(is_paper(MARK, read_paper(write_paper(paper(MARK)))), True)

    def test_many_rows(self):
        value = paper(counting_chain(*[9] * 15, 4))
        self.assertEqual([len(value[2]), read_paper(write_paper(value)) == value], [19898, True])

    def test_what_has_not_the_form(self):
        check_refused(self, InvalidPaper, [write_paper], NO_PAPERS)

    def test_what_cannot_be_read(self):
        for value in NO_STRINGS:
            with self.assertRaises(ParseError, msg=shown(value)) as caught:
                read_paper(value)
            self.assertIs(caught.exception.number, None)
        for text, number in (("", 0), ("\n", 0), ("enough", 0), ("enough ", 0), ("enough 1", 1), ("enough 1\n", 1), ("enough 1\n\n0", 1),
                ("enough 1 \n0", 0), (" enough 1\n0", 0), ("enough  1\n0", 0), ("enough 01\n0", 0), ("enough 201\n0", 0), ("enough -1\n0", 0),
                ("enough +1\n0", 0), ("enough -\n0", 0), ("enough 1 2\n0", 0), ("Enough 1\n0", 0), ("enough x\n0", 0), ("enough 1\n0\n", 2),
                ("enough 1\n0\n0", 2), ("enough 1\n0\n-", 2), ("enough 1\n0 0\n0", 2), ("enough 1\n0\n0 0", 2), ("enough 1\n0\n1\n1", 3),
                ("enough 1\n3", 1), ("enough 1\n-\n0\n3", 3), ("enough 0\n0\n2", 2), ("enough 1\n01", 1), ("enough 1\n-1", 1), ("enough 1\n0  1", 1),
                ("enough 1\n0 ", 1), ("enough 200\n202", 1), ("enough 1\n" + " ".join("0" * 25), 1), ("enough 1\nx\ny", 1),
                ("enough " + "1" * 4000 + "\n0", 0), ("grows", 0), ("grows ", 0), ("grows (a", 0), ("grows a b", 0), ("grows A", 0), ("grows  a", 0),
                ("grows a\n", 1), ("grows a\n0", 1), ("grows a\ngrows a", 1), ("grows 1", 0), ("Grows a", 0), ("grows a ", 0), ("grows " + "a" * 20001, 0),
                ("enough a", 0), ("grow a", 0)):
            with self.assertRaises(ParseError, msg=shown(text)) as caught:
                read_paper(text)
            self.assertEqual(caught.exception.number, number, shown(text))
        self.assertEqual([read_paper("enough 0\n-\n1"), read_paper("enough 200\n201")],
            [("enough", 0, ((-1,), (1,))), ("enough", 200, ((201,),))])
