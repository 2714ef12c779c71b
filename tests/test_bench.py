"""Benches."""

import itertools
import random
import unittest

from lastprices.base.machines import Machine
from lastprices.decide.papers import is_limited, last_price
from lastprices.decide.powers import power
from lastprices.errors import (InvalidMachine, InvalidNumber, InvalidOperation, NothingToUndo, ParseError, Refused, TooMany,
    UnknownName)
from lastprices.read.combined import free
from lastprices.use.bench import MAX_PLEDGES, Bench
from tests.force import some_machines
from tests.test_papers import chain, counting_chain
from tests.test_powers import ring
from tests.test_webs import JUST_3000
from tests.values import (BLOCK, COUNT, DEAL, MARK, NAMES_24, NO_MACHINES, NO_STRINGS, ODD, can_be_key, check_refused, shown,
    told_of)

NO_LINES = ["", "a", "first", "first ", "last", "arc", "arc c a 0", "arc c a 10 c", "arc c a -1 c", "arc c a 00 c", "arc c  a 0 c",
    " arc c a 0 c", "arc c a 0 c ", "arc c a 0 c\n", "arc C a 0 c", "arc c ab 0 c", "first d c", "first c c", "First c", "last c  d",
    "arc c a 0 c d", "arc abcdefghi a 0 c", "\n", "arc c a x c"]

PLEDGES = [("limited",), ("most", 0), ("most", 1), ("most", 200), ("costs", "", 0), ("costs", "a", 1), ("costs", "z", None),
    ("costs", "ab", 10 ** 60 - 1), ("power", 0), ("power", 1), ("power", 200), ("ordered", MARK.lines), ("ordered", COUNT.lines)]

NO_PLEDGES = [*NO_STRINGS, "limited", "most 1", ["limited"], ("limited", 1), ("limited", None), ("most",), ("most", -1), ("most", 201),
    ("most", True), ("most", None), ("most", "1"), ("most", 1, 1), ["most", 1], ("costs", "a"), ("costs", "a", -1), ("costs", "a", True),
    ("costs", "a", "1"), ("costs", "A", 1), ("costs", None, None), ("costs", 1, 1), ("costs", "a", 10 ** 60), ("costs", "a", 1, 1),
    ("costs", "a" * 100001, None), ("power",), ("power", -1), ("power", 201), ("power", False), ("power", None), ("power", 1, 1),
    ("ordered",), ("order", MARK.lines), ("", MARK.lines), ("limited", MARK.lines), ("ordered", MARK), ("ordered", list(MARK.lines)), ("ordered", MARK.lines[1:]), ("ordered", MARK.lines[::-1]),
    ("ordered", MARK.lines, 1), ("ordered", ()), ("ordered", "first c"), ("ordered", (*MARK.lines, "x")), ("ordered", ("first c",)),
    ("ordered", (*MARK.lines, None)), ("ordered", None), ("ordered", ("first c", "last c", *[f"arc c a 0 {name}" for name in NAMES_24])),
    ("Limited",), ("limited ",), (None,), (("limited",),), {"limited": 1}]


def held_by_force(machine, pledge):
    """Whether a pledge holds."""
    last = last_price(machine) if is_limited(machine) else None
    if pledge[0] == "limited":
        return last is not None
    if pledge[0] == "most":
        return last is not None and last <= pledge[1]
    if pledge[0] == "costs":
        return machine(pledge[1]) == pledge[2]
    if pledge[0] == "power":
        return power(machine) is not None and power(machine) <= pledge[1]
    other = Machine.from_lines(*pledge[1])
    if last is None or not is_limited(other):
        return False
    # Machines of these tests differ within a few letters, if at all.
    texts = ["".join(told) for many in range(5) for told in itertools.product("abcz", repeat=many)]
    return all(other(text) is None or (machine(text) is not None and machine(text) <= other(text)) for text in texts)


def told(bench):
    """All that a bench tells of itself, with what can be taken back and done again."""
    twin = bench.twin()
    steps = []
    for call in (twin.undo, twin.redo):
        while True:
            try:
                news = call()
            except NothingToUndo:
                break
            steps.append((news, twin.machine.lines, twin.pledges, twin.last))
    return (told_of(bench.machine), bench.last, bench.pledges, len(bench), list(bench), str(bench), steps)


class PlainBench:
    """A bench that keeps all machines and pledges, and decides anew each time."""

    def __init__(self, machine):
        self.stands = [(machine, ())]
        self.at = 0

    def now(self):
        return self.stands[self.at]

    def change(self, machine, pledges):
        before = last_price(self.now()[0])
        self.stands = [*self.stands[:self.at + 1], (machine, pledges)]
        self.at += 1
        return self.news(before)

    def move(self, by):
        before = last_price(self.now()[0])
        self.at += by
        return self.news(before)

    def news(self, before):
        after = last_price(self.now()[0])
        return () if before == after else (before, after)


class BenchTest(unittest.TestCase):
    def test_what_it_tells(self):
        bench = Bench(MARK)
        self.assertEqual([bench.machine, bench.last, bench.pledges, len(bench), list(bench), str(bench)],
            [MARK, 1, (), 6, list(MARK.lines), "bench with 6 lines, 0 pledges"])
        bench.demand(("limited",))
        bench.demand(("costs", "a", 1))
        self.assertEqual([bench.pledges, str(bench)], [(("limited",), ("costs", "a", 1)), "bench with 6 lines, 2 pledges"])
        self.assertEqual([Bench(COUNT).last, Bench(BLOCK).last, Bench(free(BLOCK)).last], [None, None, 0])

    def test_wrong_machines(self):
        check_refused(self, InvalidMachine, [Bench], NO_MACHINES)
        for machine, limit in ((JUST_3000.with_arc("x", "z", "y", 0), 3000), (counting_chain(*[9] * 16), 20000), (chain(*[9] * 23), 200)):
            with self.assertRaises(TooMany) as caught:
                Bench(machine)
            self.assertEqual(caught.exception.limit, limit)

    def test_what_is_in_it(self):
        bench = Bench(MARK)
        for pledge in (("most", 1), ("costs", "a", 1), ("ordered", MARK.lines)):
            bench.demand(pledge)
        for value in [*MARK.lines, ("most", 1), ("costs", "a", 1), ("ordered", MARK.lines)]:
            self.assertIs(value in bench, True, shown(value))
        for value in [*NO_PLEDGES, *NO_LINES, ("most", 2), ("most", True), ("costs", "a", True), ("costs", "b", 1), ("limited",),
                "arc c a 0 d", "last c", MARK.lines, MARK, "most 1", ["most", 1]]:
            self.assertIs(value in bench, False, shown(value))

    def test_equality(self):
        bench = Bench(MARK)
        for value in [*NO_STRINGS, MARK.lines, str(bench), Bench(ODD), Bench(MARK.with_arc("c", "a", "d", 2))]:
            self.assertIs(bench == value, False, shown(value))
            self.assertIs(value == bench, False, shown(value))
            self.assertIs(bench != value, True, shown(value))
        other = Bench(MARK)
        self.assertIs(bench == other, True)
        other.demand(("limited",))
        self.assertIs(bench == other, False)
        bench.demand(("most", 5))
        self.assertIs(bench == other, False)
        other.demand(("most", 5))
        bench.demand(("limited",))
        # The order of demands counts; what can be taken back does not.
        self.assertIs(bench == other, False)
        other.waive(("limited",))
        other.demand(("limited",))
        self.assertIs(bench == other, True)

    def test_lines_that_are_drawn(self):
        bench = Bench(MARK)
        self.assertEqual([bench.draw("arc d a 2 c"), bench.machine], [(), MARK.with_arc("d", "a", "c", 2)])
        self.assertEqual([bench.draw("arc c a 3 d"), bench.last], [(1, 3), 3])
        self.assertEqual([bench.draw("first d"), bench.machine.firsts, bench.draw("last x"), bench.machine.lasts], [(3, 0), ("d",), (), ("x",)])
        self.assertEqual([bench.draw("arc d c 7 x"), bench.draw("arc x c 7 x"), bench.last], [(0, 7), (7, None), None])
        self.assertEqual(bench.machine.states, ("c", "d", "x"))

    def test_lines_that_are_erased(self):
        bench = Bench(MARK)
        self.assertEqual([bench.erase("arc c a 1 d"), bench.machine], [(1, 0), MARK.without_arc("c", "a", "d")])
        self.assertEqual([bench.erase("arc c b 0 c"), bench.machine.lines], [(), ("first c", "last c d", "arc d a 0 d", "arc d b 0 d")])
        values = [*NO_LINES, *NO_STRINGS, "first c", "last c d", "first d", "arc c a 1 d", "arc d a 1 d", "arc d a 0 c", "arc x a 0 d"]
        before = told(bench)
        for value in values:
            with self.assertRaises(UnknownName, msg=shown(value)) as caught:
                bench.erase(value)
            self.assertIs(caught.exception.word, value)
        self.assertEqual(told(bench), before)

    def test_wrong_lines(self):
        bench = Bench(MARK)
        before = told(bench)
        for value in [*NO_LINES, *NO_STRINGS]:
            with self.assertRaises(ParseError, msg=shown(value)) as caught:
                bench.draw(value)
            self.assertIs(caught.exception.number, None)
        # There is no machine with so many states.
        names = " ".join(NAMES_24[:23])
        for line in (f"first {names}", f"last {names} z", "first " + " ".join(NAMES_24 + ("qy",))):
            with self.assertRaises(InvalidMachine, msg=line):
                bench.draw(line)
        self.assertEqual(told(bench), before)
        full = Bench(ring(24))
        with self.assertRaises(InvalidMachine):
            full.draw("arc qa a 0 new")
        self.assertEqual(full.draw("first qb"), ())

    def test_machines_that_cannot_be_decided(self):
        for machine, line, limit in ((JUST_3000, "arc x z 0 y", 3000), (chain(*[9] * 22, 2), f"arc {NAMES_24[22]} a 3 {NAMES_24[23]}", 200),
                (counting_chain(*[9] * 15, 4), f"arc {NAMES_24[15]} c 9 {NAMES_24[16]}", 20000)):
            bench = Bench(machine)
            bench.demand(("most", machine is JUST_3000 and 0 or last_price(machine)))
            before = told(bench)
            with self.assertRaises(TooMany) as caught:
                bench.draw(line)
            self.assertEqual(caught.exception.limit, limit)
            self.assertEqual(told(bench), before)


class PledgeTest(unittest.TestCase):
    def test_which_hold(self):
        held = 0
        for machine in [BLOCK, COUNT, MARK, ODD, free(MARK), *some_machines(40)]:
            for pledge in PLEDGES:
                bench = Bench(machine)
                before = told(bench)
                if held_by_force(machine, pledge):
                    held += 1
                    self.assertEqual([bench.demand(pledge), bench.pledges], [(), (pledge,)])
                else:
                    with self.assertRaises(Refused, msg=(machine.lines, pledge)) as caught:
                        bench.demand(pledge)
                    self.assertEqual([caught.exception.pledge, told(bench)], [pledge, before])
        self.assertGreater(held, 60)

    def test_what_is_no_pledge(self):
        bench = Bench(MARK)
        before = told(bench)
        check_refused(self, InvalidOperation, [bench.demand, bench.waive], NO_PLEDGES)
        check_refused(self, InvalidOperation, [bench.waive], PLEDGES)
        self.assertEqual(told(bench), before)

    def test_pledges_that_are_there(self):
        bench = Bench(MARK)
        for pledge in (("most", 1), ("limited",), ("costs", "a", 1)):
            bench.demand(pledge)
            with self.assertRaises(InvalidOperation):
                bench.demand(pledge)
        for value in (("most", True), ("costs", "a", True), ["most", 1], ("most", 2)):
            with self.assertRaises(InvalidOperation):
                bench.waive(value)
        self.assertEqual([bench.waive(("limited",)), bench.pledges], [(), (("most", 1), ("costs", "a", 1))])
        self.assertEqual([bench.demand(("limited",)), bench.pledges], [(), (("most", 1), ("costs", "a", 1), ("limited",))])

    def test_ten_pledges_and_one_more(self):
        bench = Bench(MARK)
        for at in range(MAX_PLEDGES):
            bench.demand(("costs", "b" * at, 0))
        before = told(bench)
        for pledge, error in ((("costs", "a", 7), TooMany), (("limited",), TooMany), (("costs", "", 0), InvalidOperation), (None, InvalidOperation)):
            with self.assertRaises(error):
                bench.demand(pledge)
        self.assertEqual([MAX_PLEDGES, told(bench)], [10, before])
        bench.waive(("costs", "bb", 0))
        self.assertEqual(bench.demand(("limited",)), ())

    def test_the_first_pledge_that_would_not_hold(self):
        bench = Bench(MARK)
        for pledge in (("costs", "b", 0), ("most", 3), ("limited",), ("costs", "ab", 1)):
            bench.demand(pledge)
        before = told(bench)
        for line, pledge in (("arc c a 4 d", ("most", 3)), ("arc c a 2 d", ("costs", "ab", 1)), ("arc c b 1 c", ("costs", "b", 0)),
                ("arc d a 1 d", ("most", 3)), ("first d", ("costs", "ab", 1)), ("last d", ("costs", "b", 0))):
            with self.assertRaises(Refused, msg=line) as caught:
                bench.draw(line)
            self.assertEqual(caught.exception.pledge, pledge, line)
            self.assertEqual(told(bench), before)
        with self.assertRaises(Refused) as caught:
            bench.erase("arc c a 1 d")
        self.assertEqual([caught.exception.pledge, told(bench)], [("costs", "ab", 1), before])

    def test_errors_of_deciding_pledges(self):
        # With one state more the machine of pieces has too many.
        great = Bench(ring(24))
        with self.assertRaises(TooMany) as caught:
            great.demand(("power", 5))
        self.assertEqual(caught.exception.limit, 24)
        names = NAMES_24[:23]
        small = Machine(names, names, {(one, "a", other): 0 for one in names for other in names})
        bench = Bench(small)
        self.assertEqual([bench.demand(("costs", "b", None)), bench.demand(("power", 1)), bench.demand(("costs", "c", None))], [(), (), ()])
        before = told(bench)
        for line, error in (("arc qa a 0 new", TooMany), ("arc qa b 0 new", TooMany), ("arc qa b 0 qa", Refused),
                ("last new", TooMany), ("arc qa c 1 qa", Refused)):
            with self.assertRaises(error, msg=line) as caught:
                bench.draw(line)
            if error is TooMany:
                self.assertEqual(caught.exception.limit, 24)
        self.assertEqual(told(bench), before)
        # What comes first in the order of demands.
        bench.demand(("costs", "a", 0))
        with self.assertRaises(TooMany):
            bench.draw("last new")
        bench.waive(("power", 1))
        bench.demand(("power", 1))
        with self.assertRaises(Refused) as caught:
            bench.draw("last new")
        self.assertEqual(caught.exception.pledge, ("costs", "a", 0))

    def test_ordered_ones(self):
        bench = Bench(free(MARK))
        self.assertEqual(bench.demand(("ordered", MARK.lines)), ())
        self.assertEqual(bench.draw("arc c a 1 d"), (0, 1))
        with self.assertRaises(Refused):
            bench.draw("arc c a 2 d")
        with self.assertRaises(Refused):
            bench.draw("arc d b 1 d")
        with self.assertRaises(Refused):
            bench.erase("arc c b 0 c")
        with self.assertRaises(TooMany) as caught:
            bench.demand(("ordered", chain(*[9] * 23).lines))
        self.assertEqual(caught.exception.limit, 200)
        many = counting_chain(*[9] * 15, 4)
        with self.assertRaises(TooMany) as caught:
            Bench(many).demand(("ordered", chain(*[9] * 22, 2).lines))
        self.assertEqual(caught.exception.limit, 20000)


class UndoTest(unittest.TestCase):
    def test_against_plain_benches(self):
        lines = ["arc c a 0 d", "arc c a 2 d", "arc d a 1 c", "arc d b 1 d", "arc c b 0 c", "first c d", "first c", "last d", "last c d",
            "arc c b 3 d", "arc d a 0 d", "arc d a 1 d", "arc c a 1 d"]
        pledges = [("limited",), ("most", 3), ("costs", "a", 1), ("costs", "bb", 0), ("power", 2), ("most", 1)]
        choose = random.Random(3)
        for _ in range(12):
            bench, plain = Bench(MARK), PlainBench(MARK)
            for _ in range(60):
                kind = choose.choice(("draw", "draw", "erase", "demand", "waive", "undo", "redo", "undo"))
                machine, pledged = plain.now()
                before = told(bench)
                if kind in ("draw", "erase"):
                    line = choose.choice(lines)
                    words = line.split(" ")
                    if kind == "erase":
                        made = machine.without_arc(words[1], words[2], words[4]) if line in machine.lines and len(words) == 5 else None
                    elif words[0] == "arc":
                        made = machine.with_arc(words[1], words[2], words[4], int(words[3]))
                    else:
                        made = machine.with_ends(**{words[0] + "s": tuple(words[1:])})
                    refused = [] if made is None else [pledge for pledge in pledged if not held_by_force(made, pledge)]
                    call = bench.erase if kind == "erase" else bench.draw
                    if made is None:
                        self.assertRaises(UnknownName, call, line)
                    elif refused:
                        with self.assertRaises(Refused) as caught:
                            call(line)
                        self.assertEqual(caught.exception.pledge, refused[0])
                    else:
                        self.assertEqual(call(line), plain.change(made, pledged))
                        continue
                    self.assertEqual(told(bench), before)
                elif kind in ("demand", "waive"):
                    pledge = choose.choice(pledges)
                    if (pledge in pledged) is (kind == "demand"):
                        self.assertRaises(InvalidOperation, getattr(bench, kind), pledge)
                    elif kind == "waive":
                        self.assertEqual(bench.waive(pledge), plain.change(machine, tuple(one for one in pledged if one != pledge)))
                    elif held_by_force(machine, pledge):
                        self.assertEqual(bench.demand(pledge), plain.change(machine, pledged + (pledge,)))
                    else:
                        self.assertRaises(Refused, bench.demand, pledge)
                else:
                    many = choose.randrange(4)
                    there = plain.at if kind == "undo" else len(plain.stands) - 1 - plain.at
                    if many > there:
                        with self.assertRaises(NothingToUndo) as caught:
                            getattr(bench, kind)(many=many)
                        self.assertEqual([caught.exception.many, told(bench)], [many, before])
                    else:
                        self.assertEqual(getattr(bench, kind)(many=many), plain.move(-many if kind == "undo" else many))
                self.assertEqual((bench.machine, bench.pledges), plain.now())
                self.assertEqual(bench.last, last_price(bench.machine))

    def test_numbers_of_changes(self):
        bench = Bench(MARK)
        for price in (2, 3, 4, 4):
            bench.draw(f"arc c a {price} d")
        self.assertEqual([bench.last, bench.undo(many=0), bench.redo(many=0), bench.undo(), bench.undo(), bench.undo(many=2)],
            [4, (), (), (), (4, 3), (3, 1)])
        for many in (1, 2, 10 ** 59):
            with self.assertRaises(NothingToUndo) as caught:
                bench.undo(many=many)
            self.assertEqual(caught.exception.many, many)
        with self.assertRaises(NothingToUndo):
            bench.undo()
        self.assertEqual([bench.redo(many=3), bench.redo(), bench.last], [(1, 4), (), 4])
        for call in (bench.redo, lambda: bench.redo(many=1), lambda: bench.redo(many=9)):
            with self.assertRaises(NothingToUndo):
                call()
        self.assertEqual([bench.undo(many=4), bench.redo(many=2)], [(4, 1), (1, 3)])
        with self.assertRaises(NothingToUndo) as caught:
            bench.redo(many=3)
        self.assertEqual([caught.exception.many, bench.last], [3, 3])
        # Another change, even one that changes nothing, leaves nothing to do again.
        self.assertEqual(bench.draw("arc c a 3 d"), ())
        with self.assertRaises(NothingToUndo):
            bench.redo()
        self.assertEqual(bench.undo(many=3), (3, 1))

    def test_wrong_numbers(self):
        bench = Bench(MARK)
        bench.draw("arc c a 2 d")
        values = [value for value in NO_STRINGS if value not in (0, 1, 9, 10, 10 ** 59) or isinstance(value, bool)] + ["1", "", -2]
        check_refused(self, InvalidNumber, [lambda value: bench.undo(many=value), lambda value: bench.redo(many=value)], values)
        for call in (bench.undo, bench.redo):
            with self.assertRaises(TypeError):
                call(1)
        self.assertEqual([bench.last, bench.undo()], [2, (2, 1)])

    def test_refused_changes_leave_what_can_be_done_again(self):
        bench = Bench(MARK)
        bench.demand(("most", 3))
        bench.draw("arc c a 3 d")
        bench.undo()
        before = told(bench)
        for call in (lambda: bench.draw("arc c a 4 d"), lambda: bench.draw("x"), lambda: bench.erase("first c"), lambda: bench.demand(("most", 3)),
                lambda: bench.demand(("most", 0)), lambda: bench.waive(("limited",)), lambda: bench.undo(many=2), lambda: bench.redo(many=2)):
            with self.assertRaises((ValueError, ArithmeticError, KeyError, RuntimeError)):
                call()
            self.assertEqual(told(bench), before)
        self.assertEqual(bench.redo(), (1, 3))


class TrialTest(unittest.TestCase):
    def test_blocks(self):
        bench = Bench(MARK)
        bench.draw("arc c a 2 d")
        bench.draw("arc c a 3 d")
        bench.undo()
        before = told(bench)
        with bench.trial() as same:
            self.assertIs(same, bench)
            bench.draw("arc c a 9 d")
            bench.demand(("limited",))
            bench.undo(many=3)
            self.assertEqual([bench.last, bench.redo(many=2)], [1, (1, 9)])
        self.assertEqual(told(bench), before)
        self.assertEqual(bench.redo(), (2, 3))

    def test_blocks_that_end_with_an_error(self):
        bench = Bench(MARK)
        bench.draw("arc c a 2 d")
        before = told(bench)
        for error in (KeyError("x"), Refused(("limited",)), KeyboardInterrupt()):
            with self.assertRaises(error.__class__) as caught:
                with bench.trial():
                    bench.undo()
                    bench.draw("arc c a 5 d")
                    raise error
            self.assertIs(caught.exception, error)
            self.assertEqual(told(bench), before)
        with self.assertRaises(ParseError):
            bench.during(lambda same: [same.draw("arc c a 7 d"), same.draw("x")])
        self.assertEqual(told(bench), before)

    def test_nested_blocks(self):
        bench = Bench(MARK)
        before = told(bench)
        with bench.trial():
            bench.draw("arc c a 2 d")
            inner = told(bench)
            with bench.trial() as same:
                same.draw("arc c a 3 d")
                self.assertEqual(same.during(lambda again: again.undo(many=2)), (3, 1))
                self.assertEqual(bench.last, 3)
            self.assertEqual(told(bench), inner)
        self.assertEqual(told(bench), before)
        # The same block, entered within itself.
        block = bench.trial()
        with block:
            bench.draw("arc c a 4 d")
            with block:
                bench.draw("arc c a 5 d")
            self.assertEqual(bench.last, 4)
        self.assertEqual(told(bench), before)
        with block:
            bench.draw("arc c a 6 d")
        self.assertEqual(told(bench), before)

    def test_during(self):
        bench = Bench(MARK)
        self.assertEqual([bench.during(lambda same: same.last), bench.during(len), bench.during(lambda same: same is bench)], [1, 6, True])
        self.assertEqual([bench.during(lambda same: same.draw("arc c a 3 d")), bench.last], [(1, 3), 1])
        twin = bench.during(lambda same: [same.draw("arc c a 3 d"), same.twin()][1])
        self.assertEqual([bench.last, twin.last, twin.undo()], [1, 3, (3, 1)])


class TwinTest(unittest.TestCase):
    def test_twins_do_not_know_of_each_other(self):
        bench = Bench(MARK)
        bench.draw("arc c a 2 d")
        bench.demand(("most", 5))
        bench.undo()
        twin = bench.twin()
        before = told(bench)
        self.assertEqual([twin == bench, twin is bench, told(twin)], [True, False, before])
        self.assertEqual([twin.redo(), twin.draw("arc c a 4 d"), twin.pledges], [(), (2, 4), (("most", 5),)])
        self.assertEqual([told(bench), bench.redo(), bench.last], [before, (), 2])
        self.assertEqual([twin.last, twin.undo(many=3)], [4, (4, 1)])
        self.assertEqual([bench.last, bench.pledges], [2, (("most", 5),)])

    def test_what_is_passed_or_told_can_be_changed(self):
        bench = Bench(MARK)
        before = told(bench)
        bench.machine.arcs.clear()
        list(bench).clear()
        self.assertEqual(told(bench), before)
        self.assertEqual([bench.machine.with_arc("c", "a", "d", 5).arcs["c", "a", "d"], bench.last], [5, 1])
        self.assertEqual([can_be_key(pledge) for pledge in PLEDGES], [True] * len(PLEDGES))

    def test_many_changes(self):
        bench = Bench(MARK)
        for at in range(3000):
            bench.draw(f"arc c a {at % 4} d")
        self.assertEqual([bench.last, bench.undo(many=2999), bench.redo(many=1502), bench.undo(many=1503)], [3, (3, 0), (0, 2), (2, 1)])

    def test_great_benches(self):
        bench = Bench(JUST_3000)
        self.assertEqual([bench.last, bench.during(lambda same: same.draw("first qb")), bench.last], [0, (), 0])

    def test_not_limited_ones(self):
        bench = Bench(DEAL)
        self.assertEqual([bench.last, bench.draw("arc qd b 0 qd"), bench.last, bench.undo()], [None, (None, 0), 0, (0, None)])
        with self.assertRaises(Refused):
            bench.demand(("limited",))
        with self.assertRaises(Refused):
            bench.demand(("ordered", MARK.lines))
