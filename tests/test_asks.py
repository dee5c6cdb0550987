"""Points [61] to [66]: how many asks are needed, trees of asks, what shows that more are needed, and twins."""

import itertools
import random
import unittest

from knownlate.asks import answers, is_answers, is_tree, needed, tree, twins
from knownlate.errors import BadCount, BadProbes, BadRows, KnowError
from knownlate.watches import Watch
from tests.cases import Case
from tests.samples import deep_dict, deep_list, deep_tuple, no_counts, odd_objects, odd_rows, own_list, tank

ROWS = [(3, ("broken",)), (2, ()), (1, ())]
PROBES = {"wet": [2, 3], "dry": [2]}
TREE = ("wet", ("dry", (), ()), ())
WHOLE = ((1, ()), (2, ()), (3, ("broken",)))
PAPER = [(WHOLE, 2), (((2, ()), (3, ("broken",))), 1), (((1, ()), (3, ("broken",))), 1)]
NAMES = ["wet", "dry", "hot", "cold", "loud", "dim"]


def settled(candidates):
    return len({faults for _, faults in candidates}) < 2


def halves(candidates, states):
    """The candidates for which a probe with these states answers yes, and the other ones."""
    return (frozenset(each for each in candidates if each[0] in states),
            frozenset(each for each in candidates if each[0] not in states))


def slow_needed(candidates, probes, most=7):
    """Point [62]: the least number up to `most`, or None."""
    candidates = frozenset(candidates)
    if settled(candidates):
        return 0
    found = None
    for states in probes.values():
        parts = halves(candidates, states)
        if candidates in parts or most == 0:
            continue
        both = [slow_needed(part, probes, most - 1) for part in parts]
        if None not in both and (found is None or max(both) + 1 < found):
            found = max(both) + 1
    return found


def depth(thing):
    return 0 if thing == () else 1 + max(depth(thing[1]), depth(thing[2]))


def right_tree(candidates, probes, thing):
    """Point [63] for tuples that are empty or have a name and two such tuples."""
    if thing == ():
        return settled(candidates)
    name, *sides = thing
    return name in probes and all(right_tree(part, probes, side)
                                  for part, side in zip(halves(candidates, probes[name]), sides))


def right_answers(rows, probes, many, thing):
    """Point [64] for a list of tuples of a tuple of candidates and an integer."""
    for candidates, number in thing:
        if list(candidates) != sorted(set(candidates)) or not set(candidates) <= set(rows) or settled(candidates):
            return False
        if number < 1:
            return False
        for states in probes.values() if number >= 2 else ():
            parts = [tuple(sorted(part)) for part in halves(candidates, states)]
            if not any(other in parts and count >= number - 1 for other, count in thing):
                return False
    return any(candidates == tuple(sorted(rows)) and number > many for candidates, number in thing)


def slow_twins(rows, probes):
    for one, other in itertools.combinations(rows, 2):
        if one[1] != other[1] and all((one[0] in each) == (other[0] in each) for each in probes.values()):
            return one, other
    return None


def random_rows(source, most=10, states=8):
    faults = [(), ("a",), ("b",), ("a", "b"), ("a", "b", "c")][:source.choice((2, 3, 5))]
    every = [(state, each) for state in range(states) for each in faults]
    # Most states have one candidate, since two candidates of one state are often twins.
    one_each = [(state, source.choice(faults)) for state in range(states)]
    source.shuffle(one_each)
    rows = one_each if source.random() < 0.8 else source.sample(every, most)
    rows = rows[:source.randint(1, most)]
    return rows if source.random() < 0.5 else tuple(rows)


def random_probes(source, most=6, states=8):
    names = source.sample(NAMES, source.randint(0, most))
    return {name: source.choice((list, tuple))(source.choices(range(states + 2), k=source.randrange(7)))
            for name in names}


def shuffled(source, probes):
    """An equal dict with another order and other rows of the same states."""
    names = list(probes)
    source.shuffle(names)
    return {name: probes[name] for name in names}


class Needed(Case):
    def check(self, rows, probes):
        """All answers for candidates and probes, compared with the slow ones; returns how many asks are needed."""
        need = slow_needed(rows, probes)
        found = needed(rows, probes)
        self.assertEqual([found, found.__class__], [need, need.__class__])
        self.assertEqual(twins(rows, probes), slow_twins(rows, probes))
        self.assertIs(need is None, slow_twins(rows, probes) is not None)
        made = tree(rows, probes)
        if need is None:
            self.assertIsNone(made)
        else:
            self.assertEqual([depth(made), right_tree(rows, probes, made)], [need, True])
            for most in range(11):
                self.assertIs(is_tree(rows, probes, most, made), most >= need)
        for many in (0, 1, 2, 3, 4, 5, 6, 9, 10):
            paper = answers(rows, probes, many)
            if need is not None and need <= many:
                self.assertIsNone(paper)
                continue
            self.assertEqual([paper.__class__, {each.__class__ for each in paper}], [list, {tuple}])
            self.assertIs(right_answers(rows, probes, many, paper), True)
            self.assertIs(is_answers(rows, probes, many, paper), True)
        return need

    def test_the_example(self):
        self.assertEqual(self.check(ROWS, PROBES), 2)
        self.assertIs(is_tree(ROWS, PROBES, 2, TREE), True)
        self.assertIs(is_answers(ROWS, PROBES, 1, PAPER), True)

    def test_settled_candidates(self):
        for rows in ([(5, ())], [(5, ("a",)), (6, ("a",))], tuple((at, ("a", "b")) for at in range(10))):
            for probes in ({}, PROBES, {"wet": []}):
                self.assertEqual(self.check(rows, probes), 0)
                self.assertEqual(tree(rows, probes), ())

    def test_no_probes(self):
        self.assertIsNone(self.check(ROWS, {}))
        self.assertIsNone(self.check(((0, ()), (0, ("a",))), {}))

    def test_probes_that_part_nothing(self):
        self.assertIsNone(self.check(ROWS, {"wet": [], "dry": (), "hot": [1, 2, 3], "cold": [50, 60]}))
        self.assertEqual(self.check(ROWS, {**PROBES, "hot": [1, 2, 3, 4], "cold": []}), 2)

    def test_one_state_with_unlike_faults(self):
        rows = [(5, ("a",)), (6, ()), (5, ())]
        self.assertIsNone(self.check(rows, {"wet": [5], "dry": [6]}))
        self.assertEqual(twins(rows, {"wet": [5], "dry": [6]}), ((5, ("a",)), (5, ())))

    def test_from_one_ask_to_six(self):
        # Each of six probes tells one state from all others, and one state is left.
        for many in range(1, 7):
            rows = [(at, (NAMES[at],) if at < many else ()) for at in range(many + 1)]
            probes = {NAMES[at]: [at] * 5 for at in range(many)}
            self.assertEqual(self.check(rows, probes), many)
        # Three probes tell eight states by their binary digits.
        rows = [(at, (NAMES[at],) if at < 6 else tuple(sorted(NAMES[at - 6:at - 4]))) for at in range(8)]
        probes = {name: [at for at in range(100) if at & bit] for name, bit in (("one", 1), ("two", 2), ("four", 4))}
        self.assertEqual(self.check(rows, probes), 3)

    def test_what_is_asked_hangs_on_the_answers(self):
        # Behind "wet" another probe is needed for each answer.
        rows = [(0, ()), (1, ("a",)), (2, ("b",)), (3, ("c",))]
        self.assertEqual(self.check(rows, {"wet": [0, 1], "dry": [0], "hot": [2]}), 2)
        self.assertEqual(self.check(rows, {"dry": [0], "hot": [2], "dim": [1]}), 3)

    def test_all_sizes(self):
        source = random.Random(41)
        seen = {}
        for _ in range(500):
            rows, probes = random_rows(source, 8), random_probes(source)
            need = self.check(rows, probes)
            seen[need] = seen.get(need, 0) + 1
        self.assertLessEqual({None, 0, 1, 2, 3}, set(seen), seen)

    def test_ten_candidates_and_six_probes(self):
        source = random.Random(42)
        seen = {}
        for _ in range(60):
            rows = [(at, source.choice(((), ("a",), ("b",), ("a", "c")))) for at in source.sample(range(100), 10)]
            states = [state for state, _ in rows]
            probes = {name: source.sample(states, source.choice((1, 2, 4, 5))) for name in NAMES}
            need = self.check(rows, probes)
            seen[need] = seen.get(need, 0) + 1
        self.assertTrue({3, 4, 5} & set(seen), seen)

    def test_the_orders_have_no_effect(self):
        source = random.Random(43)
        for _ in range(150):
            rows, probes = list(random_rows(source)), random_probes(source)
            others = source.sample(rows, len(rows))
            again = shuffled(source, probes)
            self.assertEqual(needed(rows, probes), needed(tuple(others), again))
            self.assertEqual(tree(rows, probes), tree(others, again))
            for many in (0, 1, 2, 10):
                self.assertEqual(answers(rows, probes, many), answers(others, again, many))
            self.assertEqual(twins(rows, probes), twins(rows, again))

    def test_arguments_and_answers(self):
        rows, probes = list(ROWS), {name: list(states) for name, states in PROBES.items()}
        paper = answers(rows, probes, 1)
        paper.clear()
        self.assertIs(is_answers(rows, probes, 1, answers(rows, probes, 1)), True)
        self.assertEqual([tree(rows, probes), twins(rows, probes)], [tree(ROWS, PROBES), None])
        self.assertEqual([rows, probes], [ROWS, PROBES])


class Twins(Case):
    def test_the_first_pair_by_the_order_of_the_rows(self):
        rows = [(9, ("b",)), (1, ()), (8, ()), (2, ("a",)), (7, ("b",))]
        self.assertEqual(twins(rows, {}), ((9, ("b",)), (1, ())))
        self.assertEqual(twins(rows, {"wet": [9]}), ((1, ()), (2, ("a",))))
        self.assertEqual(twins(rows, {"wet": [9], "dry": [1, 8]}), ((2, ("a",)), (7, ("b",))))
        self.assertEqual(twins(rows, {"wet": [9, 7]}), ((1, ()), (2, ("a",))))
        self.assertEqual(twins(rows, {"wet": [9, 2]}), ((9, ("b",)), (2, ("a",))))
        self.assertEqual(twins(rows, {"wet": [9], "dry": [2]}), ((1, ()), (7, ("b",))))
        self.assertIsNone(twins(rows, {"wet": [9], "dry": [2], "hot": [7]}))
        for order in itertools.permutations(rows):
            self.assertEqual(twins(order, {"wet": [9, 2]}), slow_twins(order, {"wet": [9, 2]}))

    def test_equal_faults_are_no_twins(self):
        self.assertIsNone(twins([(1, ("a",)), (2, ("a",))], {}))
        self.assertEqual(twins([(1, ("a",)), (1, ("a", "b"))], {"wet": [1]}), ((1, ("a",)), (1, ("a", "b"))))


class Trees(Case):
    def judge(self, thing, most=2, rows=ROWS, probes=PROBES):
        return is_tree(rows, probes, most, thing)

    def test_right_trees(self):
        other = ("dry", (), ("wet", (), ()))
        for thing in (TREE, other):
            for most in range(11):
                self.assertIs(self.judge(thing, most), most >= 2)
        # A settled set may be asked on, and a probe may part nothing.
        deeper = ("wet", ("wet", ("dry", ("dry", (), ()), ()), ()), ("dry", (), ()))
        self.assertEqual(depth(deeper), 4)
        for most in range(11):
            self.assertIs(self.judge(deeper, most), most >= 4)
            self.assertIs(self.judge((), most), False)
            self.assertIs(self.judge((), most, ROWS[1:]), True)
            self.assertIs(self.judge(TREE, most, ROWS[1:]), most >= 2)

    def test_depths_from_0_to_10(self):
        for many in range(13):
            thing = TREE
            for _ in range(many):
                thing = ("wet", thing, thing)
            for most in range(11):
                self.assertIs(self.judge(thing, most), most >= many + 2)

    def test_wrong_trees(self):
        for thing in (("wet", (), ()), ("wet", (), TREE), ("dry", (), ()), ("dry", (), ("dry", (), ())),
                      ("dry", ("wet", (), ()), ()), ("hot", ("dry", (), ()), ()), ("wet", ("hot", (), ()), ()),
                      ("wet", ("dry", (), ())), ("wet", ("dry", (), ()), (), ()), ("wet",), ["wet", TREE[1], ()],
                      ("wet", ["dry", (), ()], ()), ("wet", TREE[1], []), ("wet", TREE[1], None), (TREE,),
                      ("wet", TREE[1], ((),)), (None, TREE[1], ()), (["wet"], TREE[1], ()), (("wet",), TREE[1], ()),
                      ("wet", (), TREE[1]), "wet", None, {}, [], ("wet", "dry", "hot"), ("wet", "dry", ())):
            self.assertIs(self.judge(thing), False, thing)
            self.assertIs(self.judge(thing, 10), False, thing)

    def test_any_object(self):
        for value in odd_objects() + odd_rows() + [None, 0, tank(), own_list(), Watch(), deep_list(), deep_tuple(),
                                                   deep_dict()]:
            empty = value.__class__ is tuple and len(value) == 0
            self.assertIs(self.judge(value, 10), False)
            self.assertIs(self.judge(("wet", value, ()), 10), False)
            self.assertIs(self.judge(("wet", TREE[1], value), 10), empty)
            self.assertIs(self.judge((value, TREE[1], ()), 10), False)
            self.assertIs(self.judge(("wet", ("dry", value, value), ()), 10), empty)

    def test_a_deep_tree(self):
        thing = ()
        for _ in range(100000):
            thing = ("wet", thing, ())
        self.assertIs(self.judge(thing, 10), False)
        thing = ("wet", ("dry", thing, ()), ())
        self.assertIs(self.judge(thing, 10, ROWS[1:]), False)

    def test_many_trees(self):
        source = random.Random(44)
        seen = {True: 0, False: 0}

        def grown(left):
            if left == 0 or source.random() < 0.3:
                return ()
            return (source.choice(NAMES[:3]), grown(left - 1), grown(left - 1))

        for _ in range(3000):
            rows, probes = random_rows(source, 3), random_probes(source)
            thing, most = grown(source.randrange(5)), source.randrange(5)
            expected = right_tree(rows, probes, thing) and depth(thing) <= most
            self.assertIs(is_tree(rows, probes, most, thing), expected)
            seen[expected] += 1
        self.assertGreater(min(seen.values()), 500)


class Answers(Case):
    def judge(self, thing, many=1, rows=ROWS, probes=PROBES):
        return is_answers(rows, probes, many, thing)

    def test_right_papers(self):
        whole, first, second = PAPER
        for thing in (PAPER, PAPER[::-1], PAPER + PAPER, [whole, first, second, (WHOLE, 1), (first[0], 1)]):
            self.assertIs(self.judge(thing), True)
            self.assertIs(self.judge(thing, 0), True)
            for many in (2, 3, 10):
                self.assertIs(self.judge(thing, many), False)
        self.assertIs(self.judge([(WHOLE, 1)], 0), True)
        self.assertIs(self.judge([(WHOLE, 1)], 1), False)
        # One of the two parts of each probe is enough.
        self.assertIs(self.judge([whole, first], 1, probes={"wet": [2, 3]}), True)
        self.assertIs(self.judge([whole, second], 1, probes={"wet": [2, 3]}), False)

    def test_a_probe_that_parts_nothing(self):
        pair = ((1, ()), (3, ("broken",)))
        for probes in ({"hot": [1, 3]}, {"hot": []}, {"hot": [1, 2, 3], "dim": [50]}):
            for number in (2, 3, 10, 11, 10 ** 6000):
                self.assertIs(self.judge([(pair, number)], 1, pair, probes), True)
        self.assertIs(self.judge([(pair, 11)], 10, pair, {}), True)
        self.assertIs(self.judge([(pair, 10)], 10, pair, {}), False)
        self.assertIs(self.judge([(pair, 11)], 10, pair, {"hot": [1]}), False)
        # The pair stays together, so the whole row may have any number.
        for number in (2, 3, 11, 12):
            paper = [(WHOLE, number), (pair, number - 1)]
            self.assertIs(self.judge(paper, min(number - 1, 10), ROWS, {"hot": [2]}), True)
            self.assertIs(self.judge(paper[:1] + [(pair, number - 2)], 1, ROWS, {"hot": [2]}), False)

    def test_numbers_that_are_too_great(self):
        whole, first, second = PAPER
        self.assertIs(self.judge([(WHOLE, 3), first, second]), False)
        self.assertIs(self.judge([whole, (first[0], 2), second]), False)
        self.assertIs(self.judge([(WHOLE, 3), (first[0], 2), (second[0], 2)]), False)

    def test_wrong_papers(self):
        whole, first, second = PAPER
        for thing in ([], [whole], [whole, first], [whole, second], [first, second], tuple(PAPER), None, {},
                      [whole, first, (second[0], 0)], [whole, first, (second[0], -1)],
                      [whole, first, (second[0], True)], [whole, first, (second[0], 1.0)],
                      [whole, first, (second[0], None)], [whole, first, (second[0][::-1], 1)],
                      [whole, first, (list(second[0]), 1)], [whole, first, list(second)],
                      [whole, first, (second[0],)], [whole, first, (second[0], 1, 1)], [whole, first, second, ()],
                      [whole, first, second, None], [whole, first, second, (((1, ()), (2, ())), 1)],
                      [whole, first, second, (((1, ()),), 1)], [whole, first, second, ((), 1)],
                      [(WHOLE[:2], 2), first, second], [(WHOLE + WHOLE[-1:], 2), first, second],
                      [whole, first, second, (((2, ()), (4, ("broken",))), 1)],
                      [whole, first, second, (((3, ()), (3, ("broken",))), 1)],
                      [whole, first, second, (((2, ()), (3, ["broken"])), 1)],
                      [whole, first, second, (((2, ()), [3, ("broken",)]), 1)],
                      [whole, first, second, (((2.0, ()), (3, ("broken",))), 1)],
                      [whole, first, second, ((2, 3), 1)], [whole, first, second, (((2, (), ()), second[0][1]), 1)],
                      [(2, WHOLE), first, second], PAPER + [(WHOLE, 0)], PAPER + [(first[0], 0)],
                      PAPER + [(first[0], -1)], PAPER + [(WHOLE, False)]):
            self.assertIs(self.judge(thing), False, thing)

    def test_any_object(self):
        whole, first, second = PAPER
        for value in odd_objects() + odd_rows() + [None, 0, tank(), own_list(), Watch(), deep_list(), deep_tuple(),
                                                   deep_dict()]:
            whole_number = value.__class__ is int and value > 0
            self.assertIs(self.judge(value), False)
            self.assertIs(self.judge(PAPER + [value]), False)
            self.assertIs(self.judge(PAPER + [(value, 1)]), False)
            self.assertIs(self.judge([whole, first, (second[0], value)]), whole_number and value == 1)
            self.assertIs(self.judge(PAPER + [((value,), 1)]), False)
            self.assertIs(self.judge(PAPER + [(((1, ()), value), 1)]), False)
            self.assertIs(self.judge(PAPER + [(((1, ()), (3, value)), 1)]), False)
            self.assertIs(self.judge(PAPER + [(((1, ()), (3, (value,))), 1)]), False)
            self.assertIs(self.judge(PAPER + [(((value, ()), (3, ("broken",))), 1)]), False)

    def test_many_papers(self):
        source = random.Random(45)
        seen = {True: 0, False: 0}
        for _ in range(1200):
            rows, probes = random_rows(source, 5), random_probes(source)
            many = source.randrange(4)
            thing = answers(rows, probes, many)
            if thing is None:
                continue
            for at in range(len(thing)):
                candidates, number = thing[at]
                if source.random() < 0.15:
                    number = max(0, number + source.choice((-1, 1)))
                if source.random() < 0.05:
                    candidates = tuple(sorted(source.sample(rows, source.randint(1, len(rows)))))
                thing[at] = (candidates, number)
            source.shuffle(thing)
            thing = [item for item in thing if source.random() < 0.95]
            expected = right_answers(rows, probes, many, thing)
            self.assertIs(is_answers(rows, probes, many, thing), expected)
            seen[expected] += 1
        self.assertGreater(min(seen.values()), 100)

    def test_all_small_papers(self):
        pairs = [candidates for many in (2, 3) for candidates in itertools.combinations(WHOLE, many)]
        items = [(each, number) for each in pairs for number in (1, 2, 3)]
        for many in range(3):
            for thing in itertools.combinations(items, many + 1):
                for count in (0, 1, 2):
                    self.assertIs(self.judge(list(thing), count), right_answers(ROWS, PROBES, count, thing))


class Errors(Case):
    WORKS = [
        lambda rows, probes: needed(rows, probes),
        lambda rows, probes: tree(rows, probes),
        lambda rows, probes: is_tree(rows, probes, -1, 5),
        lambda rows, probes: answers(rows, probes, -1),
        lambda rows, probes: is_answers(rows, probes, -1, 5),
        lambda rows, probes: twins(rows, probes),
    ]

    def test_rows(self):
        for work in self.WORKS:
            for value in odd_objects() + [None, 0, "abc", {}, {0: (1, ())}, [], (), ROWS * 4, [5] * 11, tank(),
                                          deep_dict(), [(at, ()) for at in range(11)]]:
                self.refuse(BadRows, "at", -1, work, value, 5)
            for value in odd_objects() + odd_rows() + [None, 0, tank(), Watch(), [3, ()], (3,), (3, (), ()), (3, []),
                                                       (100, ()), (-1, ()), (True, ()), (3.0, ()), ("3", ()),
                                                       (3, ("a", "a")), (3, ("b", "a")), (3, ("a", "b", "c", "d")),
                                                       (3, ("A",)), (3, ("",)), (3, (None,)), (3, "a"), (3, {"a": 1}),
                                                       (3, ("abcdefghijklm",)), (3, None), (3, ("a", 5)),
                                                       (3, deep_tuple()), (deep_tuple(), ()), (3, (deep_tuple(),))]:
                self.refuse(BadRows, "at", 0, work, [value], 5)
                self.refuse(BadRows, "at", 1, work, ((5, ()), value, value), 5)
                self.refuse(BadRows, "at", 9, work, [(at, ("a",)) for at in range(9)] + [value], 5)

    def test_equal_candidates(self):
        for work in self.WORKS:
            self.refuse(BadRows, "at", 3, work, ROWS + [(1, ()), (2, ())], 5)
            self.refuse(BadRows, "at", 1, work, [(1, ("a", "b")), (1, ("a", "b"))], 5)
        self.assertEqual(needed([(1, ("a",)), (2, ("a",))], {}), 0)
        self.assertIsNone(needed([(1, ("a",)), (1, ())], {}))
        self.assertEqual(needed([(0, ("a", "b", "c")), (99, ("a", "b", "c"))], {}), 0)

    def test_probes(self):
        seven = {name: [] for name in NAMES + ["seven"]}
        for work in self.WORKS:
            for value in odd_objects() + [None, 0, "wet", [("wet", [])], (), deep_list(), tank(), seven,
                                          {at: at for at in range(7)}]:
                self.refuse(BadProbes, "name", None, work, ROWS, value)
            for key in (None, 0, True, "", "A", ("a",), b"a", 10 ** 6000, frozenset(["a"]), len, "abcdefghijklm",
                        "\ud800"):
                self.refuse(BadProbes, "name", key, work, ROWS, {"wet": [1], key: [1], 5: 5})
            for value in odd_objects() + [None, 0, "a", {1: 1}, {}, tank(), deep_dict(), [1] * 101, (1,) * 101,
                                          range(3), {1, 2}]:
                self.refuse(BadProbes, "name", "dry", work, ROWS, {"wet": [1], "dry": value, "hot": None})
            for value in odd_objects() + odd_rows() + [None, "1", tank(), 100, -1]:
                self.refuse(BadProbes, "name", "dry", work, ROWS, {"wet": [1], "dry": [1, value], "hot": None})
        # The first wrong key is the first one in the order of the dict.
        self.refuse(BadProbes, "name", "wet", needed, ROWS, {"wet": 5, "dry": 5})
        self.refuse(BadProbes, "name", "dry", needed, ROWS, {"dry": 5, "wet": 5})

    def test_probes_within_the_limits(self):
        probes = {name: [at % 100 for at in range(100)] for name in NAMES}
        self.assertIsNone(needed(ROWS, probes))
        self.assertEqual(needed(ROWS, {**{name: () for name in NAMES[1:]}, "wet": (3,) * 100}), 1)

    def test_counts(self):
        for value in no_counts(10):
            self.refuse(BadCount, "value", value, is_tree, ROWS, PROBES, value, TREE)
            self.refuse(BadCount, "value", value, answers, ROWS, PROBES, value)
            self.refuse(BadCount, "value", value, is_answers, ROWS, PROBES, value, None)
        for many in (0, 10):
            is_tree(ROWS, PROBES, many, TREE)
            answers(ROWS, PROBES, many)
            is_answers(ROWS, PROBES, many, PAPER)

    def test_nothing_has_changed(self):
        rows, probes = list(ROWS) + [5], {"wet": [1, 2], "dry": [100]}
        for work in self.WORKS:
            for args in ((rows, probes), (rows[:3], probes), (rows[:3], {"wet": [1, 2]})):
                try:
                    work(*args)
                except KnowError:
                    pass
        self.assertEqual([rows, probes], [ROWS + [5], {"wet": [1, 2], "dry": [100]}])


if __name__ == "__main__":
    unittest.main()
