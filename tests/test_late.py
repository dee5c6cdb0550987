"""Points [33] to [37]: how late a fault is known, the met tuples with their ranks, and the judge of ranks."""

import itertools
import random
import unittest

from knownlate.errors import BadCount, BadWatches, KnowError, NoFault, TooMany
from knownlate.late import alike_runs, endless, is_alike, is_endless, is_ranks, late, ranks
from knownlate.machines import Machine
from knownlate.watches import Watch, all_seen, seeing
from tests import naive
from tests.samples import clock, deep_dict, deep_list, deep_tuple, no_counts, no_faults, no_watches, odd_objects
from tests.samples import odd_rows, own_list, same, tank

PAPER = ([(0, 0), (1, 1)], {(2, 0): 1, (3, 1): 0})
SMOKE = Machine(0, [(0, "go", 1), (0, "go", 2), (1, "bang", 3), (3, "smoke", 3), (2, "on", 2)], {"bang": "broken"})


def many_tuples(more):
    """A machine with 5000 alike tuples of two watches, or a few more: 1000 AHEAD and 4000 BEHIND."""
    steps = [(at, "u", (at + 1) % 10) for at in range(10)] + [(0, "bad", 20)]
    steps += [(20 + at, "u", 20 + (at + 1) % 40) for at in range(40)]
    steps += [(0, "end", 10)] + [(at, "end", min(at + 1, 9 + more)) for at in range(10, 10 + more)]
    return Machine(0, steps if more else steps[:-1], {"bad": "hole"}), [seeing(["end"]), Watch({"end": "x"})]


def delayed(many):
    """A machine in which the fault shows so many steps behind it, and a run without it looks the same until then."""
    steps = [(0, "bad", 10), (0, "fine", 40)]
    steps += [(10 + at, "tick", 11 + at) for at in range(many)] + [(10 + many, "alarm", 10 + many)]
    return Machine(0, steps + [(40, "tick", 40)], {"bad": "hole"})


class LateCase(unittest.TestCase):
    def refuse(self, error, attribute, value, work, *args):
        with self.assertRaises(error) as caught:
            work(*args)
        self.assertIs(caught.exception.__class__, error)
        self.assertTrue(same(getattr(caught.exception, attribute), value), caught.exception.__dict__)


class Late(LateCase):
    def test_the_examples(self):
        self.assertEqual(late(tank(), [all_seen(tank())], "hole"), 2)
        self.assertIsNone(late(tank(), [seeing(["fill"])], "hole"))
        self.assertEqual(late(SMOKE, [seeing(["smoke"])], "broken"), 1)
        self.assertEqual(late(SMOKE, [seeing(["bang", "on"])], "broken"), 0)

    def test_known_at_once(self):
        self.assertEqual(late(tank(), [seeing(["leak"])], "hole"), 0)
        self.assertEqual(late(tank(), (seeing(["leak"]),), "hole"), 0)
        self.assertIsNone(late(tank(), [Watch()], "hole"))
        self.assertIsNone(late(tank(), [Watch({"leak": "x", "fill": "x", "drip": "x", "alarm": "x"})], "hole"))

    def test_a_fault_that_no_run_does(self):
        made = Machine(0, [(0, "a", 0), (1, "b", 0)], {"b": "far"})
        self.assertEqual(late(made, [Watch()], "far"), 0)
        self.assertEqual(ranks(made, [Watch()], "far"), ([(0, 0)], {}))
        self.assertEqual(ranks(made, [Watch(), Watch({"a": "a"})], "far"), ([(0, 0, 0)], {}))

    def test_no_alike_run_without_the_fault(self):
        # The fault is the only step there is, so after one sight it is known; ahead of it nothing is.
        made = Machine(0, [(0, "bad", 1), (1, "tick", 1)], {"bad": "hole"})
        self.assertEqual(late(made, [seeing(["tick"])], "hole"), 1)
        self.assertIsNone(late(made, [Watch()], "hole"))

    def test_delays(self):
        for many in range(1, 20):
            made = delayed(many)
            self.assertEqual(late(made, [seeing(["tick", "alarm"])], "hole"), many + 1)
            self.assertEqual(late(made, [seeing(["alarm"])], "hole"), many + 1)
            self.assertIsNone(late(made, [seeing(["tick"])], "hole"))

    def test_one_watch_is_enough_and_each_knows_alone(self):
        left = Machine(0, [(0, "bad", 1), (0, "worse", 2), (1, "a", 1), (2, "b", 2), (0, "c", 0)],
                       {"bad": "hole", "worse": "hole"})
        self.assertIsNone(late(left, [seeing(["a"])], "hole"))
        self.assertIsNone(late(left, [seeing(["b"])], "hole"))
        self.assertEqual(late(left, [seeing(["a"]), seeing(["b"])], "hole"), 1)
        # Both sights together would tell the fault, but no watch has both of them.
        apart = Machine(0, [(0, "a", 1), (1, "b", 2), (0, "b", 3), (3, "bad", 4), (4, "a", 2), (2, "u", 2)],
                        {"bad": "hole"})
        self.assertEqual(late(apart, [seeing(["a", "b"])], "hole"), 1)
        self.assertIsNone(late(apart, [seeing(["a"]), seeing(["b"])], "hole"))

    def test_three_watches(self):
        made = delayed(3)
        row = [seeing(["tick"]), Watch(), seeing(["alarm"])]
        self.assertEqual(late(made, row, "hole"), 4)
        self.assertIsNone(late(made, row[:2], "hole"))
        self.assertEqual(late(made, row + [], "hole"), late(made, tuple(row), "hole"))

    def test_several_faults(self):
        made = Machine(0, [(0, "a", 1), (0, "b", 1), (1, "c", 1), (0, "d", 0)], {"a": "one", "b": "two"})
        self.assertEqual(late(made, [Watch({"a": "x", "b": "y"})], "one"), 0)
        self.assertEqual(late(made, [Watch({"a": "x", "b": "y"})], "two"), 0)
        self.assertIsNone(late(made, [Watch({"a": "x", "b": "x", "c": "c"})], "one"))
        self.assertIsNone(late(made, [seeing(["c"])], "two"))
        both = Machine(0, made.steps, {"a": "one", "b": "one"})
        self.assertEqual(late(both, [seeing(["c"])], "one"), 1)

    def test_unseen_circles_behind_the_fault(self):
        made = Machine(0, [(0, "bad", 1), (1, "u", 1), (1, "alarm", 2), (2, "alarm", 2), (0, "u", 0)], {"bad": "hole"})
        self.assertIsNone(late(made, [seeing(["alarm"])], "hole"))
        self.assertEqual(late(made, [seeing(["bad"])], "hole"), 0)

    def test_circles_of_side_moves_alone(self):
        # The run without the fault may go round unseen for ever, but the run with it may not.
        made = Machine(0, [(0, "bad", 1), (0, "u", 3), (3, "u", 0), (1, "alarm", 1)], {"bad": "hole"})
        self.assertEqual(late(made, [seeing(["alarm"])], "hole"), 1)
        self.assertEqual(ranks(made, [seeing(["alarm"])], "hole"),
                         ([(0, 0), (0, 3), (3, 0), (3, 3)], {(1, 0): 0, (1, 3): 0}))

    def test_many_machines(self):
        source = random.Random(13)
        seen = {}
        for _ in range(600):
            made = naive.random_machine(source)
            row = [naive.random_watch(source, made, "pq") for _ in range(source.choice((1, 1, 2, 2, 3)))]
            fault = source.choice(made.fault_names)
            expected = naive.late(made, row, fault)
            self.assertEqual(late(made, row, fault), expected)
            found = ranks(made, row, fault)
            self.assertEqual(found, naive.ranks(made, row, fault))
            if expected is not None:
                self.assertEqual(max(found[1].values(), default=-1) + 1, expected)
                self.assertEqual([found[0], list(found[1])], [sorted(found[0]), sorted(found[1])])
            seen[expected] = seen.get(expected, 0) + 1
        self.assertTrue(set(seen) >= {None, 0, 1, 2}, seen)

    def test_arguments_stay_as_they_are(self):
        made, row = tank(), [all_seen(tank())]
        one, other = ranks(made, row, "hole"), ranks(made, row, "hole")
        self.assertEqual(one, other)
        one[0].clear()
        one[1].clear()
        self.assertEqual(ranks(made, row, "hole"), PAPER)
        self.assertEqual([made, row], [tank(), [all_seen(tank())]])
        row[0]["alarm"] = None
        self.assertIsNone(late(made, row, "hole"))


class Errors(LateCase):
    WORKS = [
        lambda machine, row, fault: late(machine, row, fault),
        lambda machine, row, fault: ranks(machine, row, fault),
        lambda machine, row, fault: is_ranks(machine, row, fault, -1, 5),
        lambda machine, row, fault: alike_runs(machine, row, fault, -1),
        lambda machine, row, fault: is_alike(machine, row, fault, -1, 5),
        lambda machine, row, fault: endless(machine, row, fault),
        lambda machine, row, fault: is_endless(machine, row, fault, 5),
    ]

    def test_rows_of_watches(self):
        good = Watch()
        for work in self.WORKS:
            for value in odd_objects() + odd_rows() + [None, 0, tank(), good, {0: good}, [], (), [good] * 4, [5] * 4]:
                at = 0 if isinstance(value, (list, tuple)) and 1 <= len(value) <= 3 else -1
                self.refuse(BadWatches, "at", at, work, tank(), value, "other")
            for value in no_watches():
                self.refuse(BadWatches, "at", 0, work, tank(), [value], "other")
                self.refuse(BadWatches, "at", 1, work, tank(), (good, value), "other")
                self.refuse(BadWatches, "at", 2, work, tank(), [good, good, value], "other")
                self.refuse(BadWatches, "at", 1, work, tank(), [good, value, value], "other")

    def test_faults(self):
        for work in self.WORKS:
            for value in no_faults():
                self.refuse(NoFault, "name", value, work, tank(), [Watch()], value)
            self.refuse(NoFault, "name", "hole", work, clock(), (Watch(),), "hole")

    def test_counts(self):
        made, row = many_tuples(1)
        for value in no_counts(5000):
            self.refuse(BadCount, "value", value, is_ranks, tank(), [Watch()], "hole", value, PAPER)
            self.refuse(BadCount, "value", value, is_ranks, tank(), [Watch()], "hole", value, None)
        for value in no_counts(100):
            self.refuse(BadCount, "value", value, is_alike, tank(), [Watch()], "hole", value, None)
            self.refuse(BadCount, "value", value, alike_runs, made, row, "hole", value)

    def test_nothing_has_changed(self):
        made, row = tank(), [seeing(["fill"])]
        for work in self.WORKS:
            for fault in ("other", "hole"):
                try:
                    work(made, row, fault)
                except KnowError:
                    pass
                self.assertEqual([made, row], [tank(), [seeing(["fill"])]])


class Limits(LateCase):
    def test_5000_tuples(self):
        made, row = many_tuples(0)
        self.assertIsNone(late(made, row, "hole"))
        self.assertIsNone(ranks(made, row, "hole"))
        self.assertIs(is_alike(made, row, "hole", 100, alike_runs(made, row, "hole", 100)), True)
        self.assertIs(is_endless(made, row, "hole", endless(made, row, "hole")), True)
        ahead, behind = naive.met(made, row, "hole")
        self.assertEqual([len(ahead), len(behind)], [1000, 4000])

    def test_5001_tuples(self):
        made, row = many_tuples(1)
        ahead, behind = naive.met(made, row, "hole")
        self.assertEqual([len(ahead), len(behind)], [1001, 4000])
        for work in (late, ranks, endless):
            self.refuse(TooMany, "limit", 5000, work, made, row, "hole")
        self.refuse(TooMany, "limit", 5000, alike_runs, made, row, "hole", 0)
        self.refuse(NoFault, "name", "bad", late, made, row, "bad")
        self.assertIs(is_ranks(made, row, "hole", 5000, ([], {})), False)
        self.assertIs(is_alike(made, row, "hole", 0, ((10,), (), ())), True)
        self.assertIs(is_endless(made, row, "hole", ((), ())), False)

    def test_many_tuples_with_ranks(self):
        # BEHIND, x goes along a chain of eleven states, while y may be in any of 49 states.
        steps = [(at, "u", (at + 1) % 49) for at in range(49)] + [(0, "bad", 60)]
        steps += [(at, "u", at + 1) for at in range(60, 70)] + [(70, "alarm", 70)]
        made, row = Machine(0, steps, {"bad": "hole"}), [seeing(["alarm"])]
        found = ranks(made, row, "hole")
        self.assertEqual([len(found[0]), len(found[1]), late(made, row, "hole")], [49 * 49, 11 * 49, 11])
        self.assertIs(is_ranks(made, row, "hole", 11, found), True)
        self.assertIs(is_ranks(made, row, "hole", 10, found), False)

    def test_many_tuples_without_the_fault(self):
        steps = [(at, "u", (at + 1) % 71) for at in range(71)]
        made = Machine(0, steps + [(80, "bad", 80)], {"bad": "hole"})
        self.refuse(TooMany, "limit", 5000, late, made, [Watch()], "hole")
        self.assertEqual(late(made, [seeing(["u"])], "hole"), 0)
        made = Machine(0, [(at, "u", (at + 1) % 70) for at in range(70)] + [(80, "bad", 80)], {"bad": "hole"})
        self.assertEqual(late(made, [Watch()], "hole"), 0)

    def test_tuples_with_very_many_moves(self):
        # From each of 2401 tuples AHEAD and as many BEHIND there are thousands of main moves.
        steps = [(at, each, to) for at in range(7) for to, each in enumerate("aaaabbb")] + [(0, "z", 0)]
        made = Machine(0, steps, {"z": "hole"})
        row = [Watch({"a": "x", "b": "x"})] * 3
        self.assertIsNone(late(made, row, "hole"))
        self.assertIs(is_endless(made, row, "hole", endless(made, row, "hole")), True)
        found = list(itertools.product(range(7), repeat=4))
        self.assertIs(is_ranks(made, row, "hole", 5000, (found, {each: 7 for each in found})), False)
        row = [Watch({"a": "x", "b": "x", "z": "z"})] * 3
        self.assertEqual([late(made, row, "hole"), ranks(made, row, "hole")], [0, (found, {})])
        self.assertIs(is_ranks(made, row, "hole", 0, (found, {})), True)
        self.assertIs(is_ranks(made, row, "hole", 0, (found[:-1], {})), False)


class Judge(LateCase):
    def judge(self, thing, most=2):
        return is_ranks(tank(), [all_seen(tank())], "hole", most, thing)

    def test_own_papers(self):
        self.assertEqual(ranks(tank(), [all_seen(tank())], "hole"), PAPER)
        for most in range(6):
            self.assertIs(self.judge(PAPER, most), most >= 2)
        self.assertIs(self.judge(PAPER, 5000), True)
        self.assertIsNone(ranks(tank(), [seeing(["fill"])], "hole"))

    def test_other_papers(self):
        ahead, behind = PAPER
        for thing in ((ahead[::-1], behind), (ahead * 3, behind), (ahead, {(3, 1): 0, (2, 0): 1})):
            self.assertIs(self.judge(thing), True)
        for first, second, most in ((7, 6, 8), (7, 0, 8), (4999, 4998, 5000)):
            self.assertIs(self.judge((ahead, {(2, 0): first, (3, 1): second}), most), True)
            self.assertIs(self.judge((ahead, {(2, 0): first, (3, 1): second}), most - 1), False)
        self.assertIs(self.judge((ahead, {(2, 0): 10 ** 50, (3, 1): 0}), 5000), False)
        self.assertIs(self.judge((ahead + [(0, 1)], {**behind, (2, 1): 0})), True)
        self.assertIs(self.judge((ahead + [(0, 1)], behind)), False)
        self.assertIs(self.judge((ahead, {**behind, (3, 0): 0, (2, 1): 0})), True)
        self.assertIs(self.judge((ahead, {**behind, (3, 3): 5})), False)
        self.assertIs(self.judge((ahead, {**behind, (2, 0): 2}), 3), True)
        self.assertIs(self.judge((ahead, {**behind, (2, 0): 2}), 2), False)

    def test_wrong_papers(self):
        ahead, behind = PAPER
        for thing in ((ahead[1:], behind), (ahead[:1], behind), ([], {}), ([], behind), (ahead, {}),
                      (ahead, {(2, 0): 1}), (ahead, {(3, 1): 0}), (ahead, {(2, 0): 0, (3, 1): 0}),
                      (ahead, {(2, 0): 1, (3, 1): 1}), (ahead, {(2, 0): 1, (3, 1): -1}),
                      (ahead, {(2, 0): 1, (3, 1): False}), (ahead, {(2, 0): True, (3, 1): 0}),
                      (ahead, {(2, 0): 1.0, (3, 1): 0}), (ahead, {(2, 0): None, (3, 1): 0}),
                      (tuple(ahead), behind), [ahead, behind], (ahead, list(behind)), (ahead, list(behind.items())),
                      (ahead, behind, ()), (ahead,), (), (behind, ahead), ([(0, 0), (1, True)], behind),
                      ([(0, 0), [1, 1]], behind), (ahead + [(4, 4)], behind), (ahead + [(0,)], behind),
                      (ahead + [(0, 0, 0)], behind), (ahead + [()], behind), (ahead + [0], behind),
                      (ahead + [(0, 0.0)], behind), (ahead, {**behind, (4, 0): 0}), (ahead, {**behind, 0: 0}),
                      (ahead, {(2, 0): 1, (3, True): 0}), (ahead, {**behind, (3,): 0}), (ahead, {**behind, "ab": 0}),
                      (ahead, {**behind, (3, 1, 0): 0}), (ahead, {**behind, None: 0})):
            self.assertIs(self.judge(thing), False, thing)

    def test_each_kind_of_move(self):
        made = Machine(0, [(0, "bad", 1), (0, "u", 2), (2, "u", 0), (1, "alarm", 1)], {"bad": "hole"})
        ahead, behind = ranks(made, [seeing(["alarm"])], "hole")
        self.assertEqual(behind, {(1, 0): 0, (1, 2): 0})

        def judge(numbers, most):
            return is_ranks(made, [seeing(["alarm"])], "hole", most, (ahead, {(1, 0): numbers[0], (1, 2): numbers[1]}))

        # Side moves lead from each of the two tuples to the other one.
        self.assertIs(judge((0, 0), 1), True)
        self.assertIs(judge((3, 3), 4), True)
        self.assertIs(judge((3, 3), 3), False)
        self.assertIs(judge((1, 0), 5), False)
        self.assertIs(judge((0, 1), 5), False)

    def test_rows_of_other_lengths(self):
        made, row = tank(), [all_seen(tank()), Watch()]
        self.assertIs(is_ranks(made, row, "hole", 2, PAPER), False)
        found = ranks(made, row, "hole")
        self.assertEqual({len(each) for each in found[0] + list(found[1])}, {3})
        self.assertIs(is_ranks(made, row, "hole", 2, found), True)
        self.assertIs(is_ranks(made, row[:1], "hole", 2, found), False)

    def test_any_object(self):
        ahead, behind = PAPER
        for value in odd_objects() + odd_rows() + [None, 0, tank(), own_list(), Watch()]:
            self.assertIs(self.judge(value), False)
            self.assertIs(self.judge((value, behind)), False)
            self.assertIs(self.judge((ahead, value)), False)
            self.assertIs(self.judge((ahead + [value], behind)), False)
            self.assertIs(self.judge((ahead + [(0, value)], behind)),
                          self.judge((ahead + [(0, 0)], behind)) and same(value, 0))
            whole = value.__class__ is int and value >= 0
            self.assertIs(self.judge((ahead, {**behind, (3, 0): value})), whole)
        for value in (deep_list(), deep_tuple(), deep_dict()):
            self.assertIs(self.judge(([value], behind)), False)

    def test_many_papers(self):
        source = random.Random(14)
        seen = {True: 0, False: 0}
        for _ in range(500):
            made = naive.random_machine(source, 3, 7)
            row = [naive.random_watch(source, made) for _ in range(source.choice((1, 1, 2)))]
            fault = source.choice(made.fault_names)
            paper = ranks(made, row, fault)
            if paper is None:
                continue
            ahead, behind = list(paper[0]), {each: 2 * many for each, many in paper[1].items()}
            product = list(itertools.product(made.states, repeat=len(row) + 1))
            for _ in range(5):
                for each in source.sample(product, min(len(product), source.choice((0, 0, 1, 2)))):
                    ahead.append(each)
                for each in source.sample(product, min(len(product), source.choice((0, 0, 1, 2)))):
                    behind[each] = behind.get(each, 0) + source.choice((0, 1, 1, -1))
                behind = {each: max(many, 0) for each, many in behind.items()}
                source.shuffle(ahead)
                most = max(list(behind.values()) + [0]) + source.choice((0, 1, 1, 1))
                expected = naive.is_ranks(made, row, fault, most, (ahead, behind))
                self.assertIs(is_ranks(made, row, fault, most, (ahead, behind)), expected)
                seen[expected] += 1
        self.assertGreater(min(seen.values()), 100)


if __name__ == "__main__":
    unittest.main()
