"""Machines and wrong values that several tests use."""

from lastprices.base.machines import Machine
from lastprices.errors import InvalidMachine, InvalidNumber, ParseError, UnknownName
from lastprices.rows.tables import Table
from lastprices.signs.costs import Costs
from lastprices.signs.patterns import Pattern
from lastprices.signs.squares import Square
from lastprices.signs.webs import Web

BLOCK = Machine.from_lines("first p", "last r", "arc p a 0 p", "arc p b 0 p", "arc p b 0 q", "arc q a 1 q",
    "arc q b 0 r", "arc r a 0 r", "arc r b 0 r")
COUNT = Machine.from_lines("first c", "last c", "arc c a 0 c", "arc c b 1 c")

DEAL = BLOCK | COUNT
ODD = Machine.from_lines("first s", "last t", "arc s a 3 t", "arc t a 0 s")
MARK = Machine.from_lines("first c", "last c d", "arc c b 0 c", "arc c a 1 d", "arc d a 0 d", "arc d b 0 d")

NAMES_24 = tuple("q" + letter for letter in "abcdefghijklmnopqrstuvwx")
NAMES_25 = NAMES_24 + ("qy",)

# Values of every kind that can be passed, other than strings.
NO_STRINGS = [
    0, 1, -1, 9, 10, 10 ** 59, 10 ** 60, 10 ** 99, -(10 ** 99), True, False, None,
    (), (None,), ("a",), ("p", "a", "p"), ("p", ["a"], {}), ((((((((1,),),),),),),),),
    [], ["a"], ["p", "a", "p"], [[[[[[[["a"]]]]]]]],
    {}, {"a": "b"}, {("p", "a", "p"): 0}, {1: {2: {3: {4: {5: {6: {7: {8: 9}}}}}}}},
    BLOCK, COUNT, InvalidMachine("p"), ParseError(None), UnknownName("p"), Costs(((0,),)), Square(("0",)),
    Pattern("b(a)#b"), Web(COUNT), Table(COUNT, 1),
]

# Strings without a letter among them, and without a name or a text.
NO_LETTERS_ONLY = [
    "A", "P", "Queue", "quEue", "0", "1", " ", " a", "a ", "a b", "\n", "a\n", "\na", "a\tb", "-", "a-b", "_", "a_b",
    "#", "(a)#", "`", "{", "@", "[", "ab1", "1ab", "a" * 3999 + "!", "\n" * 4000,
    "\u00e9", "\u00df", "a\u00e9b", "\u00aa", "\u03b1", "\uff41",
]

NO_NAMES = NO_STRINGS + NO_LETTERS_ONLY + ["", "abcdefghi", "a" * 100000, "a" * 100001]
NO_LETTERS = NO_STRINGS + NO_LETTERS_ONLY + ["", "ab", "abcdefgh", "a" * 100000, "a" * 100001]
NO_TEXTS = NO_STRINGS + NO_LETTERS_ONLY + ["a" * 100001]

# Whatever is none of the integers from 0 to 9.
NO_PRICES = [value for value in NO_STRINGS if value not in (0, 1, 9) or isinstance(value, bool)] + [
    -2, 11, 99, "", "0", "1", "a"]


NO_MACHINES = [value for value in NO_STRINGS if not isinstance(value, Machine)] + ["", "first p", *BLOCK.lines, "a"]

# Whatever is none of the integers from 0 to 200.
NO_NUMBERS = [value for value in NO_STRINGS if value not in (0, 1, 9, 10) or isinstance(value, bool)] + [
    -2, 201, 10 ** 30, "", "0", "1", "a"]


def shown(value):
    """A short text of a value, for the message of a failure."""
    return repr(value)[:80]


def can_be_key(value):
    """Whether the value can be hashed."""
    try:
        hash(value)
    except TypeError:
        return False
    return True


def told_of(machine):
    """All that a machine tells of itself."""
    return (machine.firsts, machine.lasts, list(machine.arcs.items()), machine.states, machine.letters, machine.lines,
        len(machine), list(machine), str(machine))


def check_judge(case, function, good, bad):
    """Checks that a function whose name begins with `is_` tells True and False themselves, not only values like them."""
    for value in good:
        case.assertIs(function(value), True, shown(value))
    for value in bad:
        case.assertIs(function(value), False, shown(value))


def check_refused(case, error, calls, values):
    """Checks that each of some functions raises an error for each of some values; InvalidNumber keeps the value."""
    for value in values:
        for call in calls:
            with case.assertRaises(error, msg=shown(value)) as caught:
                call(value)
            case.assertIs(caught.exception.__class__, error, shown(value))
            if error is InvalidNumber:
                case.assertIs(caught.exception.value, value)
