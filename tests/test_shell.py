"""Shells."""

import random
import unittest

from lastprices.base.machines import Machine
from lastprices.decide.dear import dear_text, prices_of
from lastprices.decide.papers import is_limited, is_paper, last_price, paper, worst_text
from lastprices.decide.powers import is_split, least_pieces, power
from lastprices.decide.rings import run_bound
from lastprices.errors import InvalidMachine, ParseError, Refused, TooMany
from lastprices.rows.tables import row_of
from lastprices.signs.squares import Square
from lastprices.signs.webs import Web
from lastprices.text.shell import Shell
from lastprices.text.texts import write_machine, write_paper, write_row
from lastprices.use.bench import Bench
from tests.force import least_price, some_machines, texts_up_to
from tests.test_bench import told
from tests.test_papers import chain, counting_chain
from tests.test_powers import ring
from tests.test_webs import JUST_3000
from tests.values import BLOCK, COUNT, DEAL, MARK, NO_STRINGS, ODD, shown

NOTHING = Machine(("a",), ("b",), {("a", "a", "a"): 1, ("b", "b", "b"): 1})


def shell_of(machine):
    """A shell with a machine."""
    return Shell(write_machine(machine))


def number_or_none(value):
    """A number as shells write it."""
    return "none" if value is None else str(value)


def text_or_none(value):
    """A text as shells write it."""
    return "none" if value is None else value or "-"


class AnswersTest(unittest.TestCase):
    def test_what_is_asked(self):
        for machine in [BLOCK, COUNT, DEAL, MARK, ODD, NOTHING, Machine(("s",), ("t",), {}), *some_machines(25)]:
            shell = shell_of(machine)
            last = last_price(machine)
            self.assertEqual([shell("lines"), shell("pledges")], ["; ".join(machine.lines), "nothing"])
            self.assertEqual(shell("last"), number_or_none(last))
            self.assertEqual(shell("worst"), text_or_none(worst_text(machine)))
            self.assertEqual(shell("bound"), number_or_none(run_bound(machine)))
            self.assertEqual(shell("power"), number_or_none(power(machine)))
            self.assertEqual(shell("web"), str(Web(machine)))
            told_paper = shell("paper")
            if is_limited(machine):
                self.assertEqual(told_paper, write_paper(paper(machine)).split("\n")[0])
            else:
                self.assertEqual(told_paper[:6], "grows ")
                self.assertIs(is_paper(machine, ("grows", told_paper[6:])), True)
                self.assertEqual(shell(told_paper), "yes")
            for text in texts_up_to("ab", 3) + ["cab"]:
                self.assertEqual(shell(f"price {text or '-'}"), number_or_none(least_price(machine, text)))
                pieces = shell(f"split {text or '-'}")
                if least_pieces(machine, text) is None:
                    self.assertEqual(pieces, "not taken")
                else:
                    self.assertIs(is_split(machine, text, () if pieces == "-" else tuple(pieces.split(" "))), True)
                self.assertEqual(shell(f"square {text or '-'}"), "/".join(Square.of_text(machine, text).rows) if text else "text")
                for cap in (0, 3, 200):
                    self.assertEqual(shell(f"row {text or '-'} {cap}"), write_row(row_of(machine, cap, text)))
            # The rows of machines that grow in many ways are too many at great prices to be looked through here.
            for price in (0, 1, 7, 200) if machine in (BLOCK, COUNT, MARK, ODD) else (0, 1, 7):
                self.assertEqual(shell(f"dear {price}"), text_or_none(dear_text(machine, price)))
            for length in (0, 1, 4):
                prices = prices_of(machine, length)
                self.assertEqual(shell(f"prices {length}"), ", ".join(f"{price}: {prices[price]}" for price in prices) or "none")

    def test_some_answers(self):
        shell = shell_of(BLOCK)
        self.assertEqual([shell("prices 3"), shell("web"), shell("split bb"), shell("dear 2"), shell("grows b(a)#b"), shell("grows (a)#")],
            ["0: 3, 1: 1", str(Web(BLOCK)), "bb", "baab", "yes", "no"])
        self.assertEqual([shell("split -"), shell("price -"), shell("worst"), shell("row - 0"), shell("square b")], ["-", "none", "none", "0 - -", "00./..0/..0"])
        self.assertEqual([shell_of(ODD)("split aa"), shell_of(COUNT)("dear 0"), shell_of(COUNT)("worst"), shell_of(MARK)("worst")],
            ["a a", "-", "none", "a"])
        self.assertEqual([shell_of(Machine(("s",), ("s",), {}))(line) for line in ("worst", "dear 0", "prices 1", "prices 0")], ["-", "-", "none", "0: 1"])

    def test_changes(self):
        shell = shell_of(MARK)
        self.assertEqual([shell("draw arc c a 3 d"), shell("undo"), shell("redo"), shell("erase arc c a 3 d"), shell("last")],
            ["from 1 to 3", "from 3 to 1", "from 1 to 3", "from 3 to 0", "0"])
        self.assertEqual([shell("undo"), shell("draw first d"), shell("draw last d"), shell("lines")],
            ["from 0 to 3", "from 3 to 0", "nothing", "first d; last d; arc c a 3 d; arc c b 0 c; arc d a 0 d; arc d b 0 d"])
        self.assertEqual([shell("draw arc d a 1 d"), shell("last"), shell("undo"), len(shell)], ["from 0 to none", "none", "from none to 0", 12])

    def test_pledges(self):
        shell = shell_of(MARK)
        commands = ["limited", "most 1", "costs - 0", "costs ab 1", "costs z none", "power 3"]
        for command in commands[:5]:
            self.assertEqual(shell(f"demand {command}"), "nothing", command)
        self.assertEqual(shell("pledges"), "limited; most 1; costs - 0; costs ab 1; costs z none")
        self.assertEqual(shell.bench().pledges, (("limited",), ("most", 1), ("costs", "", 0), ("costs", "ab", 1), ("costs", "z", None)))
        self.assertEqual([shell("draw arc c a 2 d"), shell("draw arc c z 0 c"), shell("draw first d"), shell("draw last c"), shell("draw last d")],
            ["refused most 1", "refused costs z none", "refused costs ab 1", "refused costs ab 1", "refused costs - 0"])
        self.assertEqual([shell("demand most 0"), shell("demand costs bb 1"), shell("demand costs a none"), shell("demand costs - none")],
            ["refused most 0", "refused costs bb 1", "refused costs a none", "refused costs - none"])
        self.assertEqual([shell("waive most 1"), shell("waive most 1"), shell("waive costs - 0"), shell("pledges")],
            ["nothing", "operation", "nothing", "limited; costs ab 1; costs z none"])
        self.assertEqual([shell("demand limited"), shell("demand most 201"), shell("demand power 999"), shell("waive power 1")], ["operation"] * 4)
        self.assertEqual(shell(f"demand power {power(MARK)}"), "nothing")
        self.assertEqual(shell_of(COUNT)("demand limited"), "refused limited")
        self.assertEqual(shell_of(COUNT)("demand power 0"), "refused power 0")


class ErrorsTest(unittest.TestCase):
    def test_words_for_errors(self):
        shell = shell_of(MARK)
        names = " ".join(f"q{letter}" for letter in "abcdefghijklmnopqrstuvwx")
        for line, answer in (("draw x", "line"), ("draw ", "line"), ("draw arc c a 10 d", "line"), ("draw first  c", "line"), ("draw\n", "what"),
                (f"draw first {names}", "machine"), ("erase arc d a 1 c", "unknown"), ("erase first c", "unknown"), ("erase ", "unknown"),
                ("square -", "text"), ("dear 201", "number"), ("prices 201", "number"), ("prices " + "9" * 60, "number"), ("row a 201", "number"),
                ("dear " + "1" + "0" * 59, "number"), ("split z", "not taken"), ("undo", "undo"), ("redo", "undo"), ("waive limited", "operation")):
            self.assertEqual([shell(line), len(shell)], [answer, 0], line)

    def test_too_many_of_something(self):
        self.assertEqual([shell_of(ring(24))(line) for line in ("power", "split a", "demand power 9", "last")], ["many 24", "many 24", "many 24", "0"])
        shell = shell_of(JUST_3000)
        self.assertEqual([shell("draw arc x z 0 y"), shell("last"), shell("web"), len(shell)], ["many 3000", "0", str(Web(JUST_3000)), 2])
        shell = shell_of(chain(*[9] * 22, 2))
        self.assertEqual([shell("last"), shell("draw arc qw a 3 qx"), shell("last")], ["200", "many 200", "200"])
        shell = shell_of(counting_chain(*[9] * 15, 4))
        self.assertEqual([shell("draw arc qp c 9 qq"), shell("paper")], ["many 20000", "enough 139"])
        shell = shell_of(MARK)
        for at in range(10):
            self.assertEqual(shell(f"demand costs {'b' * at or '-'} 0"), "nothing")
        self.assertEqual([shell("demand limited"), shell("demand costs - 0"), len(shell)], ["many 10", "operation", 10])

    def test_what_is_no_command(self):
        shell = shell_of(MARK)
        before = told(shell.bench())
        lines = [*NO_STRINGS, "", " ", "-", "lasts", "Last", "last ", " last", "last x", "last\n", "undo 1", "redo ", "lines x", "pledges ", "worst a",
            "bound 1", "power 1", "paper 1", "web ", "draw", "erase", "demand", "waive", "price", "price ", "price A", "price a b", "price  a",
            "price a ", "price --", "price a-", "price 1", "price " + "a" * 100001, "split", "split ", "split a b", "split A", "dear", "dear ", "dear x",
            "dear -1", "dear -", "dear 01", "dear +1", "dear 1 2", "dear 1 ", "dear 00", "dear " + "9" * 61, "dear " + "9" * 4000, "prices", "prices -", "prices 1 2",
            "prices 1.0", "prices 1_0", "prices " + "1" * 61, "square", "square a b", "square A", "square ", "row", "row a", "row a ", "row  1",
            "row a  1", "row a 1 2", "row a -", "row a -1", "row a 01", "row A 1", "row 1", "row a " + "1" * 61, "grows", "grows ", "grows (a", "grows A", "grows a b",
            "grows -", "grows " + "a" * 20001, "demand ", "demand x", "demand limited ", "demand limited 1", "demand most", "demand most x", "demand most 01",
            "demand most -1", "demand most 1 1", "demand  most 1", "demand costs a", "demand costs a x", "demand costs A 1", "demand costs a 1 1",
            "demand costs a -", "demand costs  1", "demand costs a None", "demand power", "demand power none", "demand ordered", "demand Limited",
            "demand most " + "9" * 61, "demand costs a " + "9" * 61, "waive x", "waive most", "waive costs - -", "price\na", "last; last", "\u00e9", "dear \u0661",
            "ordered", "what", "n", "trial", "twin", "answer"]
        for line in lines:
            self.assertEqual(shell(line), "what", shown(line))
        self.assertEqual([len(shell), told(shell.bench())], [0, before])

    def test_texts_that_make_no_shell(self):
        for value in NO_STRINGS:
            with self.assertRaises(ParseError, msg=shown(value)) as caught:
                Shell(value)
            self.assertIs(caught.exception.number, None)
        for text, number in (("", 0), (write_machine(MARK) + "\n", 6), ("first c\nlast c\n\n", 2)):
            with self.assertRaises(ParseError) as caught:
                Shell(text)
            self.assertEqual(caught.exception.number, number)
        with self.assertRaises(InvalidMachine):
            Shell("first c")
        for machine, limit in ((JUST_3000.with_arc("x", "z", "y", 0), 3000), (chain(*[9] * 23), 200), (counting_chain(*[9] * 16), 20000)):
            with self.assertRaises(TooMany) as caught:
                shell_of(machine)
            self.assertEqual(caught.exception.limit, limit)

    def test_any_line(self):
        choose = random.Random(5)
        words = ["draw", "erase", "demand", "waive", "undo", "redo", "lines", "pledges", "last", "worst", "bound", "power", "paper", "grows", "price", "split",
            "dear", "prices", "web", "square", "row", "arc", "first", "c", "d", "a", "b", "0", "1", "3", "201", "-", "none", "limited", "most", "costs", "(a)#",
            "", "\n", "!", "9" * 60]
        errors = ("what", "machine", "text", "operation", "unknown", "line", "number", "not taken", "undo")
        shell = shell_of(MARK)
        answered = 0
        for _ in range(6000):
            line = " ".join(choose.choice(words) for _ in range(choose.randrange(1, 6)))
            answer = shell(line)
            self.assertIsInstance(answer, str)
            if answer not in errors and not answer.startswith(("many ", "refused ")):
                answered += 1
            self.assertEqual(len(shell), answered, line)
        self.assertGreater(answered, 150)


class ShellTest(unittest.TestCase):
    def test_against_benches(self):
        shell, bench = shell_of(MARK), Bench(MARK)
        for line in ("arc c a 2 d", "arc d a 1 c", "arc d a 1 d", "first c d", "last d", "arc c b 5 c", "arc c a 2 d"):
            news = bench.draw(line)
            self.assertEqual(shell(f"draw {line}"), f"from {number_or_none(news[0])} to {number_or_none(news[1])}" if news else "nothing")
            self.assertEqual(told(shell.bench()), told(bench))
        self.assertEqual([shell.answer("undo"), shell("redo"), shell.answer("last")], ["nothing", "nothing", number_or_none(bench.last)])

    def test_shells_do_not_know_of_each_other(self):
        shell, other = shell_of(MARK), shell_of(MARK)
        shell("demand most 2")
        twin = shell.bench()
        before = told(twin)
        twin.draw("arc c a 2 d")
        twin.waive(("most", 2))
        self.assertEqual([told(shell.bench()), other("pledges"), shell("pledges"), len(shell), len(other)], [before, "nothing", "most 2", 2, 1])
        with self.assertRaises(Refused):
            shell.bench().draw("arc c a 3 d")
        self.assertEqual([shell.bench() == shell.bench(), shell.bench() is shell.bench(), shell("last")], [True, False, "1"])

    def test_long_lines(self):
        shell = shell_of(COUNT)
        self.assertEqual([shell("price " + "b" * 100000), shell("square " + "ab" * 50000), shell("row " + "b" * 100000 + " 200")], ["100000", "1", "201"])
        self.assertEqual(shell("split " + "b" * 100000), "b" * 100000)
        self.assertEqual(shell("grows " + "(" * 24 + "b" + ")#" * 24), "yes")

    def test_they_are_not_iterated_over(self):
        with self.assertRaises(TypeError):
            iter(shell_of(MARK))
