"""Machines and odd objects that several tests use."""

from knownlate.machines import Machine
from knownlate.watches import Watch

TANK_STEPS = [(0, "fill", 1), (0, "leak", 2), (1, "drip", 0), (2, "fill", 3), (3, "alarm", 3)]
DEPTH = 100000


def tank():
    return Machine(0, TANK_STEPS, {"leak": "hole"})


def clock():
    return Machine(7, [(7, "tick", 7)])


def word(number):
    """A different name for each number from 0 to 675."""
    letters = "abcdefghijklmnopqrstuvwxyz"
    return "w" + letters[number // 26] + letters[number % 26]


def ring(size, name="go"):
    """A machine that goes round `size` states."""
    return Machine(0, [(at, name, (at + 1) % size) for at in range(size)])


def fan(words, state=0):
    """A machine of one state with one step for each word."""
    return Machine(state, [(state, each, state) for each in words])


def same(one, other):
    """Whether two objects are one, or equal numbers or strings of one kind; deep objects are not compared."""
    if isinstance(other, (int, str)):
        return one.__class__ is other.__class__ and one == other
    return one is other


def deep_list():
    value = []
    for _ in range(DEPTH):
        value = [value]
    return value


def deep_tuple():
    value = ()
    for _ in range(DEPTH):
        value = (value,)
    return value


def deep_dict():
    value = {}
    for _ in range(DEPTH):
        value = {"a": value}
    return value


def own_list():
    value = []
    value.append(value)
    return value


def odd_objects():
    """Objects of many kinds; none of them is a state, a name, a row, a dict, None or a machine."""
    return [
        True, False, -1, 100, 10 ** 6000, -10 ** 6000, 1.0, 0.0, float("nan"), float("inf"), 1j,
        "", "A", "a b", "a1", "abcdefghijklm", b"", b"abc", bytearray(b"abc"), memoryview(b"abc"),
        set(), {1}, frozenset(), frozenset(["a"]), range(3), slice(3), iter([]), (n for n in "ab"), map(len, []),
        zip(), enumerate([]), reversed([]), {}.keys(), {}.values(), {}.items(),
        object(), object, int, str, list, Machine, len, lambda: 0, [].append, NotImplemented, Ellipsis,
        ValueError("x"), ValueError, property(), odd_objects, "\u00e9", "\ud800", "\uff41",
        Watch, Watch(), Watch({"fill": "fill"}), Watch({"a": "a"}),
    ]


def no_watches():
    """Objects of many kinds, also nested very deep; none of them is a watch."""
    more = [None, 0, 5, "fill", tank(), clock(), Machine, {"fill": "up"}, [Watch()], (Watch(),), {"fill": Watch()}]
    return [value for value in odd_objects() + odd_rows() + more if not isinstance(value, Watch)]


def no_faults():
    """Objects of many kinds, also nested very deep; none of them is a fault of the tank."""
    return odd_objects() + odd_rows() + [None, 0, "leak", "holes", "hol", "Hole", " hole", b"hole", ["hole"],
                                         ("hole",), {"hole": "hole"}, tank()]


def no_counts(most):
    """Objects of many kinds, also nested very deep; none of them is a count from 0 to `most`."""
    odd = [value for value in odd_objects() if value.__class__ is not int]
    return odd + odd_rows() + [None, -1, most + 1, most + 10 ** 30, -10 ** 30, True, False, 1.0, "1", tank()]


def odd_rows():
    """Rows and dicts of odd kinds, also nested very deep; none of them is a state or a name."""
    return [
        [], (), {}, [0], (0,), [[]], ((),), [None], ["fill"], {0: 0}, {"fill": "hole"}, {None: None},
        deep_list(), deep_tuple(), deep_dict(), own_list(), [deep_dict()], (deep_list(),), {"fill": deep_list()},
    ]
