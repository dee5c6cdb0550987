"""Points [38] to [41]: runs that look alike, stems and loops of runs that do so for ever, and their judges."""

import itertools
import random
import unittest

from knownlate.late import alike_runs, endless, is_alike, is_endless, late
from knownlate.machines import Machine
from knownlate.runs import alike, end_of, faults_in, steps_behind
from knownlate.watches import Watch, all_seen, seeing
from tests import naive
from tests.samples import deep_dict, deep_list, deep_tuple, odd_objects, odd_rows, own_list, tank
from tests.test_late import SMOKE, delayed, many_tuples

LASSO = (((1, 3), (0,)), ((4,), ()))


def right_runs(machine, watches, fault, many, thing):
    """Point [39] for a tuple of runs, by the functions of runs."""
    first, *others = thing
    behind = steps_behind(machine, first, fault)
    return behind is not None and behind >= many and all(
        fault not in faults_in(machine, run) and alike(machine, watch, first, run)
        for watch, run in zip(watches, others))


def is_circle(machine, stem, loop):
    state = end_of(machine, stem)
    for number in loop:
        if not 0 <= number < len(machine.steps) or machine.steps[number][0] != state:
            return False
        state = machine.steps[number][2]
    return state == end_of(machine, stem)


def right_lasso(machine, watches, fault, stems, loops):
    """Point [40] for tuples of runs and of tuples of numbers."""
    if not all(is_circle(machine, stem, loop) for stem, loop in zip(stems, loops)) or not loops[0]:
        return False
    for watch, stem, loop in zip(watches, stems[1:], loops[1:]):
        if fault in naive.names_done(machine, stem + loop):
            return False
        if naive.sights(machine, watch, stem) != naive.sights(machine, watch, stems[0]):
            return False
        if naive.sights(machine, watch, loop) != naive.sights(machine, watch, loops[0]):
            return False
    return fault in naive.names_done(machine, stems[0])


class AlikeRuns(unittest.TestCase):
    def check(self, machine, watches, fault, many, steps):
        """The answer is right, and its first run has so many steps; None if there is none."""
        found = alike_runs(machine, watches, fault, many)
        if steps is None:
            self.assertIsNone(found)
            return
        self.assertEqual([found.__class__, len(found), len(found[0])], [tuple, len(watches) + 1, steps])
        self.assertIs(right_runs(machine, watches, fault, many, found), True)
        self.assertIs(is_alike(machine, watches, fault, many, found), True)

    def test_the_example(self):
        self.assertEqual(alike_runs(tank(), [all_seen(tank())], "hole", 1), ((1, 3), (0,)))
        self.assertEqual(alike_runs(tank(), [all_seen(tank())], "hole", 0), ((1,), ()))
        self.assertIsNone(alike_runs(tank(), [all_seen(tank())], "hole", 2))
        self.assertIsNone(alike_runs(tank(), [all_seen(tank())], "hole", 100))

    def test_counts_from_0_to_100(self):
        for many in (0, 1, 2, 3, 50, 99, 100):
            self.check(tank(), [seeing(["fill"])], "hole", many, many + 1)
            self.check(tank(), [seeing(["fill"])] * 3, "hole", many, many + 1)
            self.check(tank(), [seeing(["leak"])], "hole", many, None)
            self.check(SMOKE, [Watch(), seeing(["go"])], "broken", many, many + 2)

    def test_the_first_run_is_as_short_as_possible(self):
        # Behind the near fault one step can stay hidden, behind the far one any number of steps can.
        steps = [(0, "bad", 1), (1, "tick", 2), (2, "alarm", 2), (0, "go", 3), (3, "go", 4), (4, "bad", 5),
                 (5, "tick", 5), (4, "tick", 4), (0, "tick", 0)]
        made, row = Machine(0, steps, {"bad": "hole"}), [seeing(["tick", "alarm", "go"])]
        for many, length in ((0, 1), (1, 2), (2, 5), (3, 6), (100, 103)):
            self.check(made, row, "hole", many, length)

    def test_steps_of_the_other_run_do_not_count(self):
        # The other run has to do six unseen steps to look like one seen fault, and none to look like an unseen one.
        steps = [(0, "bad", 1), (1, "tick", 1)] + [(at, "u", at + 1) for at in range(10, 15)] + [(15, "s", 16)]
        steps += [(0, "u", 10), (16, "tick", 16), (11, "ill", 12)]
        made = Machine(0, steps, {"bad": "hole", "ill": "hole"})
        for row in ([Watch({"bad": "s", "s": "s"})], [Watch({"bad": "s", "s": "s"}), Watch()]):
            for many in (0, 1, 7):
                self.check(made, row, "hole", many, many + 1)

    def test_delays(self):
        for delay in (1, 5, 18):
            for many in (0, 1, 4, 5, 6, 17, 18, 19, 100):
                row = [seeing(["tick", "alarm"]), seeing(["alarm"])]
                self.check(delayed(delay), row, "hole", many, many + 1 if many <= delay else None)

    def test_a_fault_that_no_run_does(self):
        made = Machine(0, [(0, "a", 0), (1, "b", 0)], {"b": "far"})
        self.check(made, [Watch()], "far", 0, None)
        self.assertIsNone(endless(made, [Watch()], "far"))

    def test_other_runs_may_have_other_faults(self):
        made = Machine(0, [(0, "a", 1), (0, "b", 1), (1, "c", 1)], {"a": "one", "b": "two"})
        self.assertEqual(alike_runs(made, [Watch({"a": "x", "b": "x"})], "one", 0), ((0,), (1,)))
        self.check(made, [Watch({"a": "x", "b": "x", "c": "c"})], "one", 5, 6)

    def test_long_ways_of_the_other_run(self):
        # The other run has to go round fourteen unseen steps for each step of the first one.
        steps = [(at, "u", at + 1) for at in range(14)] + [(14, "go", 0), (0, "bad", 20), (20, "go", 20)]
        made, row = Machine(0, steps, {"bad": "hole"}), [seeing(["go"]), seeing(["go"])]
        self.check(made, row, "hole", 100, 101)
        self.assertEqual(len(alike_runs(made, row, "hole", 100)[1]), 1500)
        self.assertIs(is_endless(made, row, "hole", endless(made, row, "hole")), True)

    def test_many_machines(self):
        source = random.Random(15)
        seen = {True: 0, False: 0}
        for _ in range(300):
            made = naive.random_machine(source)
            row = [naive.random_watch(source, made, "pq") for _ in range(source.choice((1, 1, 2, 2, 3)))]
            fault = source.choice(made.fault_names)
            lengths = naive.unknown_lengths(made, row, fault, 5)
            for many in range(6):
                self.check(made, row, fault, many, lengths.get(many))
                seen[many in lengths] += 1
        self.assertGreater(min(seen.values()), 100)

    def test_asked_again(self):
        made, row = tank(), [seeing(["fill"])]
        self.assertEqual(alike_runs(made, row, "hole", 7), alike_runs(tank(), (seeing(["fill"]),), "hole", 7))
        self.assertEqual(endless(made, row, "hole"), endless(tank(), (seeing(["fill"]),), "hole"))
        self.assertEqual([made, row], [tank(), [seeing(["fill"])]])


class IsAlike(unittest.TestCase):
    def judge(self, thing, many=1, row=None):
        return is_alike(tank(), [all_seen(tank())] if row is None else row, "hole", many, thing)

    def test_right_papers(self):
        self.assertIs(self.judge(((1, 3), (0,))), True)
        self.assertIs(self.judge(((1, 3), (0,)), 0), True)
        self.assertIs(self.judge(((0, 2, 1, 3), (0, 2, 0)), 1), True)
        row = [seeing(["fill"]), Watch()]
        self.assertIs(self.judge(((1, 3) + (4,) * 200, (0,), ()), 100, row), True)
        self.assertIs(self.judge(((1, 3) + (4,) * 200, (0, 2), (0, 2, 0)), 100, row), True)

    def test_wrong_papers(self):
        for thing in (((1, 3), ()), ((1, 3, 4), (0,)), ((1,), ()), ((0,), (0,)), ((1, 3), (1, 3)), ((1, 3),),
                      ((1, 3), (0,), (0,)), (), [(1, 3), (0,)], ([1, 3], (0,)), ((1, 3), [0]), ((1, True), (0,)),
                      ((1, 3), (False,)), ((1, 3), (0.0,)), ((1, 4), (0,)), ((1, 3), (2,)), ((1, 3), (5,)),
                      ((1, 3), (-5,)), ((3,), (0,)), ((1, 3), (0, 2)), ((0, 2), (0, 2)), ((0,), (1, 3))):
            self.assertIs(self.judge(thing), False, thing)
        self.assertIs(self.judge(((1, 3), (0,)), 2), False)
        self.assertIs(self.judge(((1, 3), (0,)), 1, [all_seen(tank())] * 2), False)
        self.assertIs(self.judge(((1, 3), (0,), ()), 1, [all_seen(tank()), Watch()]), True)
        self.assertIs(self.judge(((1, 3), (), (0,)), 1, [all_seen(tank()), Watch()]), False)

    def test_any_object(self):
        for value in odd_objects() + odd_rows() + [None, 0, tank(), own_list(), Watch(), deep_tuple(), deep_dict()]:
            self.assertIs(self.judge(value), False)
            self.assertIs(self.judge((value, (0,))), False)
            self.assertIs(self.judge(((1, 3), value)), False if value != (0,) else value.__class__ is tuple)
            self.assertIs(self.judge(((1, value), (0,))), False)

    def test_all_small_papers(self):
        source = random.Random(16)
        right = 0
        for _ in range(60):
            made = naive.random_machine(source, 3, 6)
            row = [naive.random_watch(source, made) for _ in range(source.choice((1, 2)))]
            fault = source.choice(made.fault_names)
            runs = naive.all_runs(made, 2)[:12]
            for thing in itertools.product(runs, repeat=len(row) + 1):
                expected = right_runs(made, row, fault, 1, thing)
                self.assertIs(is_alike(made, row, fault, 1, thing), expected)
                right += expected
        self.assertGreater(right, 50)


class Endless(unittest.TestCase):
    def check(self, machine, watches, fault):
        found = endless(machine, watches, fault)
        self.assertEqual([found.__class__, [each.__class__ for each in found], [len(each) for each in found]],
                         [tuple, [tuple, tuple], [len(watches) + 1] * 2])
        self.assertIs(right_lasso(machine, watches, fault, *found), True)
        self.assertIs(is_endless(machine, watches, fault, found), True)

    def test_the_example(self):
        self.check(tank(), [seeing(["fill"])], "hole")
        self.assertIs(is_endless(tank(), [seeing(["fill"])], "hole", LASSO), True)
        self.assertIsNone(endless(tank(), [all_seen(tank())], "hole"))

    def test_several_watches(self):
        self.check(tank(), [Watch(), seeing(["fill"]), seeing(["drip"])], "hole")
        self.check(SMOKE, [seeing(["go"]), seeing(["on"])], "broken")
        self.assertIsNone(endless(SMOKE, [seeing(["go"]), seeing(["smoke"])], "broken"))

    def test_loops_of_several_steps(self):
        made = Machine(0, [(0, "bad", 1), (1, "a", 2), (2, "b", 3), (3, "a", 1), (0, "a", 4), (4, "b", 5), (5, "a", 0)],
                       {"bad": "hole"})
        self.check(made, [seeing(["a", "b"])], "hole")
        self.check(made, [Watch({"a": "x", "b": "x"}), seeing(["b"])], "hole")

    def test_just_when_late_is_none(self):
        source = random.Random(17)
        seen = {True: 0, False: 0}
        for _ in range(500):
            made = naive.random_machine(source)
            row = [naive.random_watch(source, made, "pq") for _ in range(source.choice((1, 1, 2, 2, 3)))]
            fault = source.choice(made.fault_names)
            found = late(made, row, fault) is None
            if found:
                self.check(made, row, fault)
            else:
                self.assertIsNone(endless(made, row, fault))
            seen[found] += 1
        self.assertGreater(min(seen.values()), 100)

    def test_many_tuples(self):
        made, row = many_tuples(0)
        self.check(made, row, "hole")


class IsEndless(unittest.TestCase):
    def judge(self, thing, row=None):
        return is_endless(tank(), [seeing(["fill"])] if row is None else row, "hole", thing)

    def test_right_papers(self):
        for thing in (LASSO, (((1, 3, 4), (0, 2)), ((4, 4), ())), (((0, 2, 1, 3), (0, 2, 0)), ((4,), ()))):
            self.assertIs(self.judge(thing), True)
        unseen = [Watch()]
        self.assertIs(self.judge((((1, 3), ()), ((4,), (0, 2))), unseen), True)
        self.assertIs(self.judge((((1, 3), (), (0,)), ((4,), (), ())), [Watch(), seeing(["fill"])]), True)
        two = Machine(0, [(0, "bad", 0), (0, "a", 0)], {"bad": "hole"})
        self.assertIs(is_endless(two, [seeing(["a"])], "hole", (((0,), ()), ((0, 1, 0), (1,)))), True)
        self.assertIs(is_endless(two, [seeing(["a"])], "hole", (((0,), ()), ((1,), (1,)))), True)
        self.assertIs(is_endless(two, [seeing(["a"])], "hole", (((0,), ()), ((0,), ()))), True)

    def test_other_faults_may_be_done(self):
        made = Machine(0, [(0, "bad", 0), (0, "a", 0), (0, "ill", 0)], {"bad": "hole", "ill": "other"})
        self.assertIs(is_endless(made, [seeing(["a"])], "hole", (((0,), (2,)), ((1, 2), (2, 1)))), True)
        self.assertIs(is_endless(made, [seeing(["a"])], "other", (((0,), (2,)), ((1, 2), (2, 1)))), False)

    def test_wrong_papers(self):
        (first, second), (loop, rest) = LASSO
        for thing in (((first, second), ((), rest)), ((first, ()), (loop, rest)), ((first, second), (loop, (2,))),
                      (((0,), second), (loop, rest)), (((0,), second), ((2, 0), rest)),
                      ((first, second), ((3,), rest)), (((1,), ()), ((3,), ())), (((1, 3), (1, 3)), (loop, rest)),
                      ((first, second), ((4, 5), rest)), ((first, second), ((4, -1), rest)),
                      ((first, second), (loop, (2, 0))), ((first,), (loop,)), ((first, second), (loop,)),
                      ((first, second, second), (loop, rest, rest)), (first, second), ((first, second),), (),
                      ((first, second), (loop, rest), ()), [(first, second), (loop, rest)],
                      ([first, second], (loop, rest)), ((first, second), [loop, rest]),
                      (([1, 3], second), (loop, rest)), ((first, second), ([4], rest)),
                      ((first, second), (loop, [])), ((first, second), (loop, None)),
                      ((first, (False,)), (loop, rest)), ((first, second), ((4.0,), rest)),
                      (((1, 3, 0), second), (loop, rest))):
            self.assertIs(self.judge(thing), False, thing)
        self.assertIs(self.judge(LASSO, [all_seen(tank())]), False)
        self.assertIs(self.judge((((1, 3), ()), ((4,), ())), [seeing(["drip"])]), True)
        self.assertIs(self.judge((((1, 3), ()), ((4,), (0, 2))), [seeing(["drip"])]), False)

    def test_steps_of_the_fault_in_the_other_loops(self):
        two = Machine(0, [(0, "bad", 0), (0, "a", 0)], {"bad": "hole"})
        self.assertIs(is_endless(two, [seeing(["a"])], "hole", (((0,), ()), ((1,), (0, 1)))), False)
        self.assertIs(is_endless(two, [seeing(["a"])], "hole", (((0,), (0,)), ((1,), (1,)))), False)
        self.assertIs(is_endless(two, [seeing(["a"])], "hole", (((), ()), ((0,), ()))), False)

    def test_any_object(self):
        (first, second), (loop, rest) = LASSO
        for value in odd_objects() + odd_rows() + [None, 0, tank(), own_list(), Watch(), deep_list(), deep_dict()]:
            empty = value.__class__ is tuple and len(value) == 0
            self.assertIs(self.judge(value), False)
            self.assertIs(self.judge((value, (loop, rest))), False)
            self.assertIs(self.judge(((first, second), value)), False)
            self.assertIs(self.judge(((value, second), (loop, rest))), False)
            self.assertIs(self.judge(((first, value), (loop, rest))), value.__class__ is tuple and value == (0,))
            self.assertIs(self.judge(((first, second), (value, rest))), False)
            self.assertIs(self.judge(((first, second), (loop, value))), empty)
            self.assertIs(self.judge(((first, second), ((4, value), rest))), False)

    def test_all_small_papers(self):
        source = random.Random(18)
        right = 0
        for _ in range(60):
            made = naive.random_machine(source, 3, 6)
            row = [naive.random_watch(source, made)]
            fault = source.choice(made.fault_names)
            runs = naive.all_runs(made, 2)[:10]
            numbers = range(len(made.steps))
            loops = [()] + [(each,) for each in numbers] + list(itertools.product(numbers, repeat=2))
            for _ in range(300):
                stems = (source.choice(runs), source.choice(runs))
                chosen = (source.choice(loops), source.choice(loops))
                expected = right_lasso(made, row, fault, stems, chosen)
                self.assertIs(is_endless(made, row, fault, (stems, chosen)), expected)
                right += expected
        self.assertGreater(right, 20)


if __name__ == "__main__":
    unittest.main()
