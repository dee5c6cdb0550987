"""Points [44] to [50]: states that can avoid a fault, how far ahead it is told, and what shows that it is not."""

import itertools
import random
import unittest

from knownlate.errors import BadCount, BadRun, BadWatches, KnowError, NoFault, TooMany
from knownlate.foretold import ahead, avoiding, is_untold, untold
from knownlate.machines import Machine
from knownlate.runs import alike, end_of, faults_in
from knownlate.watches import Watch, all_seen, seeing
from tests import naive
from tests.cases import Case
from tests.samples import clock, deep_dict, deep_list, deep_tuple, no_counts, no_faults, no_watches, odd_objects
from tests.samples import odd_rows, own_list, tank
from tests.test_late import SMOKE, many_tuples


def slow_avoiding(machine, fault):
    """The states from which more steps than there are states can be done without the fault."""
    found = set(machine.states)
    for _ in range(len(machine.states) + 1):
        found = {state for state in machine.states if any(
            source == state and machine.faults.get(each) != fault and target in found
            for source, each, target in machine.steps)}
    return sorted(found)


def slow_untold_states(machine, watches, fault):
    """The ends of all runs without the fault that are not foretold, found by the ends of all alike runs."""
    free = [(source, each, target) for source, each, target in machine.steps if machine.faults.get(each) != fault]

    def closed(watch, ends):
        ends = set(ends)
        while True:
            more = {target for source, each, target in free if source in ends and each not in watch}
            if more <= ends:
                return frozenset(ends)
            ends |= more

    def longer(watch, ends, word):
        if word not in watch:
            return ends
        return closed(watch, {target for source, each, target in free
                              if source in ends and watch[each] == watch[word]})

    first = (machine.start, tuple(closed(watch, {machine.start}) for watch in watches))
    found = {first}
    waiting = [first]
    while waiting:
        state, views = waiting.pop()
        for source, each, target in free:
            node = (target, tuple(longer(watch, ends, each) for watch, ends in zip(watches, views)))
            if source == state and node not in found:
                found.add(node)
                waiting.append(node)
    safe = set(slow_avoiding(machine, fault))
    return {state for state, views in found if all(ends & safe for ends in views)}


def slow_told(machine, watches, fault, most):
    """The list of whether the fault is told 0, 1, .. up to `most` steps ahead."""
    states = slow_untold_states(machine, watches, fault)
    ready = {source for source, each, _ in machine.steps if machine.faults.get(each) == fault}
    told = []
    for _ in range(most + 1):
        told.append(not states & ready)
        ready = {source for source, each, target in machine.steps
                 if target in ready and machine.faults.get(each) != fault}
    return told


def right_untold(machine, watches, fault, many, thing):
    """Point [48] for a tuple of a run, a tuple and a tuple of tuples of three tuples, by the functions of runs."""
    run, tail, others = thing
    try:
        if len(tail) != many or len(others) != len(watches) or fault in faults_in(machine, run + tail):
            return False
        breaking = [source for source, each, _ in machine.steps if machine.faults.get(each) == fault]
        if end_of(machine, run + tail) not in breaking:
            return False
        for watch, (other, way, loop) in zip(watches, others):
            if not alike(machine, watch, run, other) or not loop or fault in faults_in(machine, other + way + loop):
                return False
            if end_of(machine, other + way + loop) != end_of(machine, other + way):
                return False
    except BadRun:
        return False
    return True


def told_late(many):
    """A machine whose fault comes in every case behind a seen "go", just so many unseen steps behind it."""
    steps = [(0, "go", 1), (0, "stay", 0)] + [(at, "tick", at + 1) for at in range(1, many + 1)]
    return Machine(0, steps + [(many + 1, "bad", 90), (90, "rest", 90)], {"bad": "hole"})


class ForetoldCase(Case):
    def check(self, machine, watches, fault, many, told):
        """`untold` is None if the fault is told so, and otherwise a right answer."""
        found = untold(machine, watches, fault, many)
        if told:
            self.assertIsNone(found)
            return
        self.assertEqual([found.__class__, found[2].__class__], [tuple, tuple])
        self.assertEqual([each.__class__ for each in found[:2] + sum(found[2], ())], [tuple] * (2 + 3 * len(watches)))
        self.assertIs(right_untold(machine, watches, fault, many, found), True)
        self.assertIs(is_untold(machine, watches, fault, many, found), True)
        self.assertIs(is_untold(machine, watches, fault, abs(many - 1), found), False)

    def check_all(self, machine, watches, fault, most=6):
        """All answers for a machine, compared with the slow ones; returns what `ahead` tells."""
        told = slow_told(machine, watches, fault, most)
        found = ahead(machine, watches, fault)
        expected = told.index(False) - 1 if False in told else None
        self.assertEqual([found, found.__class__], [expected, expected.__class__])
        for many in range(most + 1):
            self.check(machine, watches, fault, many, told[many])
        return found, told


class Avoiding(ForetoldCase):
    def test_the_example(self):
        self.assertEqual(avoiding(SMOKE, "broken"), [0, 2, 3])

    def test_states_that_cannot_avoid_a_fault(self):
        self.assertEqual(avoiding(tank(), "hole"), [0, 1, 2, 3])
        self.assertEqual(avoiding(told_late(4), "hole"), [0, 90])
        made = Machine(0, [(0, "bad", 0)], {"bad": "hole"})
        self.assertEqual(avoiding(made, "hole"), [])

    def test_states_that_are_not_reached(self):
        made = Machine(5, [(5, "bad", 5), (5, "a", 4), (4, "a", 5), (1, "a", 1), (2, "a", 1)], {"bad": "hole"})
        self.assertEqual(avoiding(made, "hole"), [4, 5])
        made = Machine(0, [(0, "a", 0), (1, "b", 0)], {"b": "far"})
        self.assertEqual(avoiding(made, "far"), [0])

    def test_other_faults_do_not_count(self):
        made = Machine(0, [(0, "a", 1), (1, "b", 0), (1, "c", 1)], {"a": "one", "b": "two"})
        self.assertEqual([avoiding(made, "one"), avoiding(made, "two")], [[1], [0, 1]])

    def test_a_new_list_each_time(self):
        avoiding(SMOKE, "broken").clear()
        self.assertEqual(avoiding(SMOKE, "broken"), [0, 2, 3])

    def test_many_machines(self):
        source = random.Random(22)
        for _ in range(500):
            made = naive.random_machine(source, 6, 10)
            for fault in made.fault_names:
                self.assertEqual(avoiding(made, fault), slow_avoiding(made, fault))

    def test_very_many_tuples_are_no_error(self):
        made, _ = many_tuples(1)
        self.assertEqual(avoiding(made, "hole"), made.states)

    def test_faults(self):
        for value in no_faults():
            self.refuse(NoFault, "name", value, avoiding, tank(), value)
        self.refuse(NoFault, "name", "hole", avoiding, clock(), "hole")


class Ahead(ForetoldCase):
    def test_the_example(self):
        self.assertEqual(ahead(SMOKE, [seeing(["go"])], "broken"), -1)
        self.assertEqual(untold(SMOKE, [seeing(["go"])], "broken", 0), ((0,), (), (((1,), (), (4,)),)))
        paper = ((0,), (), (((1,), (), (4,)),))
        self.assertIs(is_untold(SMOKE, [seeing(["go"])], "broken", 0, paper), True)
        self.check_all(SMOKE, [seeing(["go"])], "broken")

    def test_a_seen_step_tells(self):
        for many in range(8):
            made = told_late(many)
            found, told = self.check_all(made, [seeing(["go"])], "hole", 12)
            self.assertEqual([found, told], [many, [True] * (many + 1) + [False] * (12 - many)])
            self.assertEqual(self.check_all(made, [Watch()], "hole", 12)[0], -1)
            self.assertEqual(self.check_all(made, [all_seen(made)], "hole", 12)[0], many)
            if many > 0:
                self.assertEqual(self.check_all(made, [seeing(["tick"])], "hole", 12)[0], many - 1)

    def test_told_3_steps_ahead_and_not_2(self):
        made = Machine(0, [(0, "u", 1), (1, "u", 2), (2, "bad", 3), (3, "u", 3), (0, "ok", 4), (4, "ok", 4)],
                       {"bad": "hole"})
        found, told = self.check_all(made, [Watch()], "hole")
        self.assertEqual([found, told], [-1, [False, False, False, True, True, True, True]])
        # Behind "go" the fault comes in every case, four steps later; behind "tick" it may come, and two steps later.
        steps = [(0, "go", 1), (1, "u", 2), (2, "u", 3), (3, "u", 4), (4, "bad", 9), (9, "u", 9)]
        steps += [(0, "tick", 6), (6, "u", 7), (7, "bad", 9), (0, "tick", 8), (8, "u", 8)]
        found, told = self.check_all(Machine(0, steps, {"bad": "hole"}), [seeing(["go", "tick"])], "hole")
        self.assertEqual([found, told], [-1, [False, False, False, True, False, True, True]])

    def test_a_fault_that_no_run_does(self):
        made = Machine(0, [(0, "a", 0), (1, "b", 0)], {"b": "far"})
        self.assertEqual(self.check_all(made, [Watch()], "far"), (None, [True] * 7))
        self.check(made, [Watch()], "far", 100, True)

    def test_a_fault_that_comes_in_every_case(self):
        made = Machine(0, [(0, "a", 1), (1, "b", 2), (2, "bad", 0)], {"bad": "hole"})
        self.assertEqual(self.check_all(made, [Watch()], "hole"), (None, [True] * 7))

    def test_circles_ahead_of_the_fault(self):
        made = Machine(0, [(0, "u", 1), (1, "u", 2), (2, "u", 0), (2, "bad", 3), (3, "u", 3)], {"bad": "hole"})
        _, told = self.check_all(made, [all_seen(made)], "hole", 20)
        self.assertEqual(told, [False] * 21)
        for many in (50, 99, 100):
            self.check(made, [Watch(), seeing(["u"])], "hole", many, False)

    def test_one_watch_is_enough_and_each_tells_alone(self):
        made = Machine(0, [(0, "a", 1), (0, "b", 2), (1, "bad", 3), (2, "bad", 3), (0, "c", 0), (3, "u", 3)],
                       {"bad": "hole"})
        self.assertEqual(self.check_all(made, [seeing(["a"])], "hole")[0], -1)
        self.assertEqual(self.check_all(made, [seeing(["b"])], "hole")[0], -1)
        self.assertEqual(self.check_all(made, [seeing(["a"]), seeing(["b"])], "hole")[0], 0)
        self.assertEqual(self.check_all(made, (seeing(["a"]), Watch(), seeing(["b"])), "hole")[0], 0)
        # Both sights together would foretell the fault, but no watch has both of them.
        apart = Machine(0, [(0, "a", 1), (1, "b", 2), (0, "b", 3), (3, "a", 4), (4, "bad", 5), (2, "u", 2),
                            (5, "u", 5)], {"bad": "hole"})
        self.assertEqual(self.check_all(apart, [seeing(["a", "b"])], "hole")[0], 1)
        self.assertEqual(self.check_all(apart, [seeing(["a"]), seeing(["b"])], "hole")[0], -1)

    def test_the_watch_may_see_the_fault(self):
        made = Machine(0, [(0, "bad", 1), (1, "a", 0), (0, "a", 0)], {"bad": "hole"})
        self.assertEqual(self.check_all(made, [seeing(["bad"])], "hole")[0], -1)
        # The alike runs have no fault, so a seen fault never looks like theirs.
        made = Machine(0, [(0, "a", 1), (1, "bad", 2), (0, "bad", 3), (3, "u", 3), (2, "u", 2)], {"bad": "hole"})
        self.assertIsNone(self.check_all(made, [Watch()], "hole")[0])

    def test_several_words_under_one_sight(self):
        made = Machine(0, [(0, "a", 1), (0, "b", 2), (1, "bad", 3), (2, "u", 2), (3, "u", 3)], {"bad": "hole"})
        self.assertEqual(self.check_all(made, [Watch({"a": "x", "b": "x"})], "hole")[0], -1)
        self.assertEqual(self.check_all(made, [Watch({"a": "x", "b": "y"})], "hole")[0], 0)

    def test_other_faults_may_be_done(self):
        made = Machine(0, [(0, "a", 1), (1, "b", 2), (2, "c", 2), (0, "c", 3), (3, "d", 3)], {"a": "one", "b": "two"})
        self.assertEqual(self.check_all(made, [seeing(["a", "c"])], "two")[0], 0)
        self.assertEqual(self.check_all(made, [Watch()], "two")[0], -1)
        self.assertEqual(self.check_all(made, [seeing(["c"])], "one")[0], -1)

    def test_many_machines(self):
        source = random.Random(23)
        seen = {}
        for _ in range(1000):
            made = naive.random_machine(source, source.choice((3, 4, 6)), source.choice((6, 8)))
            row = [naive.random_watch(source, made, "pq") for _ in range(source.choice((1, 1, 2, 3)))]
            found, told = self.check_all(made, row, source.choice(made.fault_names))
            seen[found] = seen.get(found, 0) + 1
            seen["gap"] = seen.get("gap", 0) + (False in told and told[-1])
        self.assertTrue(set(seen) >= {None, -1, 0, 1}, seen)
        self.assertGreater(seen["gap"], 5)

    def test_arguments_and_answers(self):
        made, row = tank(), [seeing(["fill"])]
        self.assertEqual(untold(made, row, "hole", 2), untold(tank(), (seeing(["fill"]),), "hole", 2))
        self.assertEqual(ahead(made, row, "hole"), -1)
        self.assertEqual([made, row], [tank(), [seeing(["fill"])]])


class Limits(ForetoldCase):
    def test_5000_tuples(self):
        made, row = many_tuples(0)
        self.assertEqual(ahead(made, row, "hole"), -1)
        for many in (0, 1, 100):
            self.check(made, row, "hole", many, slow_told(made, row, "hole", many)[many])

    def test_5001_tuples(self):
        made, row = many_tuples(1)
        self.refuse(TooMany, "limit", 5000, ahead, made, row, "hole")
        self.refuse(TooMany, "limit", 5000, untold, made, row, "hole", 0)
        self.refuse(TooMany, "limit", 5000, untold, made, row, "hole", 100)
        self.refuse(BadCount, "value", 101, untold, made, row, "hole", 101)
        self.refuse(NoFault, "name", "bad", ahead, made, row, "bad")
        self.assertIs(is_untold(made, row, "hole", 0, None), False)
        paper = ((), (), (((), (), tuple(range(10))),) * 2)
        self.assertIs(right_untold(made, row, "hole", 0, paper), True)
        self.assertIs(is_untold(made, row, "hole", 0, paper), True)

    def test_tuples_behind_count_too(self):
        # With 50 states of y, 50 of x ahead of the fault and 50 or 51 behind it.
        steps = [(at, "u", (at + 1) % 50) for at in range(50)] + [(0, "bad", 1)]
        made = Machine(0, steps, {"bad": "hole"})
        self.assertEqual(ahead(made, [Watch()], "hole"), -1)
        more = Machine(0, steps + [(1, "worse", 60), (60, "u", 60)], {"bad": "hole", "worse": "hole"})
        self.refuse(TooMany, "limit", 5000, ahead, more, [Watch()], "hole")
        self.refuse(TooMany, "limit", 5000, untold, more, [Watch()], "hole", 5)


class Errors(ForetoldCase):
    WORKS = [
        lambda machine, row, fault: ahead(machine, row, fault),
        lambda machine, row, fault: untold(machine, row, fault, -1),
        lambda machine, row, fault: is_untold(machine, row, fault, -1, 5),
    ]

    def test_rows_of_watches(self):
        good = Watch()
        for work in self.WORKS:
            for value in odd_objects() + odd_rows() + [None, 0, tank(), good, {0: good}, [], (), [good] * 4, [5] * 4]:
                at = 0 if isinstance(value, (list, tuple)) and 1 <= len(value) <= 3 else -1
                self.refuse(BadWatches, "at", at, work, tank(), value, "other")
            for value in no_watches():
                self.refuse(BadWatches, "at", 0, work, tank(), [value, value], "other")
                self.refuse(BadWatches, "at", 2, work, tank(), (good, good, value), "other")

    def test_faults(self):
        for work in self.WORKS:
            for value in no_faults():
                self.refuse(NoFault, "name", value, work, tank(), [Watch()], value)

    def test_counts(self):
        for value in no_counts(100):
            self.refuse(BadCount, "value", value, untold, tank(), [Watch()], "hole", value)
            self.refuse(BadCount, "value", value, is_untold, tank(), [Watch()], "hole", value, None)

    def test_nothing_has_changed(self):
        made, row = tank(), [seeing(["fill"])]
        for work in self.WORKS:
            for fault in ("other", "hole"):
                try:
                    work(made, row, fault)
                except KnowError:
                    pass
                self.assertEqual([made, row], [tank(), [seeing(["fill"])]])


class Judge(ForetoldCase):
    PAPER = ((0,), (), (((1,), (), (4,)),))

    def judge(self, thing, many=0, row=None):
        return is_untold(SMOKE, [seeing(["go"])] if row is None else row, "broken", many, thing)

    def test_right_papers(self):
        for thing in (self.PAPER, ((0,), (), (((1,), (4,), (4,)),)), ((0,), (), (((1, 4, 4), (4,) * 9, (4, 4)),))):
            self.assertIs(self.judge(thing), True)
        self.assertIs(self.judge(((), (0,), (((), (1,), (4,)),)), 1), True)
        row = [seeing(["go"]), Watch()]
        self.assertIs(self.judge(((0,), (), (((1,), (), (4,)), ((), (1,), (4,)))), 0, row), True)
        self.assertIs(self.judge(((0,), (), (((1,), (), (4,)), ((1, 4), (), (4,)))), 0, row), True)

    def test_wrong_papers(self):
        other = ((1,), (), (4,))
        for thing in (((), (), (other,)), ((1,), (), (other,)), ((0,), (2,), (other,)), ((0, 2), (), (other,)),
                      ((0,), (0,), (other,)), ((), (0,), (other,)), ((0,), (), ()), ((0,), (), (other, other)),
                      ((0,), ()), ((0,),), (), ((0,), (), (other,), ()), [(0,), (), (other,)],
                      ([0], (), (other,)), ((0,), [], (other,)), ((0,), (), [other]), ((0,), (), (list(other),)),
                      ((False,), (), (other,)), ((0.0,), (), (other,)), ((-5,), (), (other,)), ((5,), (), (other,)),
                      ((0,), (), (((1,), ()),)), ((0,), (), (((1,), (), (4,), ()),)), ((0,), (), (((1,), (), ()),)),
                      ((0,), (), (((1,), (), (True,)),)), ((0,), (), (((1,), (), (-1,)),)),
                      ((0,), (), (((1,), (), (5,)),)), ((0,), (), (((1,), [], (4,)),)),
                      ((0,), (), (((1,), (), [4]),)), ((0,), (), (([1], (), (4,)),)),
                      ((0,), (), (((True,), (), (4,)),)), ((0,), (), (((), (1,), (4,)),)),
                      ((0,), (), (((0,), (2,), (3,)),)), ((0,), (), (((0, 2), (), (3,)),)),
                      ((0,), (), (((1,), (), (3,)),)), ((0,), (), (((1,), (3,), (4,)),)),
                      ((0,), (), ((1, 4),)), ((0,), (), (1, (), (4,)))):
            self.assertIs(self.judge(thing), False, thing)
        for many in (1, 2, 100):
            self.assertIs(self.judge(self.PAPER, many), False)
        self.assertIs(self.judge(self.PAPER, 0, [seeing(["on"])]), True)
        self.assertIs(self.judge(self.PAPER, 0, [Watch({"go": "go", "bang": "x"})]), True)
        self.assertIs(self.judge(((0,), (), (((1, 4), (), (4,)),)), 0, [seeing(["on"])]), False)

    def test_loops_of_the_fault(self):
        made = Machine(0, [(0, "bad", 0), (0, "a", 1), (1, "a", 0)], {"bad": "hole"})
        self.assertIs(is_untold(made, [Watch()], "hole", 0, ((), (), (((), (), (1, 2)),))), True)
        self.assertIs(is_untold(made, [Watch()], "hole", 0, ((), (), (((), (), (0,)),))), False)
        self.assertIs(is_untold(made, [Watch()], "hole", 0, ((), (), (((), (), (1,)),))), False)
        self.assertIs(is_untold(made, [Watch()], "hole", 0, ((), (), (((), (0,), (1, 2)),))), False)
        self.assertIs(is_untold(made, [Watch()], "hole", 0, ((), (), (((0,), (), (1, 2)),))), False)
        self.assertIs(is_untold(made, [Watch()], "hole", 0, ((0,), (), (((), (), (1, 2)),))), False)
        self.assertIs(is_untold(made, [Watch()], "hole", 2, ((), (1, 2), (((), (1,), (2, 1)),))), True)
        self.assertIs(is_untold(made, [Watch()], "hole", 1, ((), (0,), (((), (), (1, 2)),))), False)
        self.assertIs(is_untold(made, [Watch()], "hole", 1, ((1,), (2,), (((), (), (1, 2)),))), True)

    def test_any_object(self):
        for value in odd_objects() + odd_rows() + [None, 0, tank(), own_list(), Watch(), deep_list(), deep_tuple(),
                                                   deep_dict()]:
            empty = value.__class__ is tuple and len(value) == 0
            first = value.__class__ is tuple and value == (0,)
            self.assertIs(self.judge(value), False)
            self.assertIs(self.judge((value, (), (((1,), (), (4,)),))), first)
            self.assertIs(self.judge(((0,), value, (((1,), (), (4,)),))), empty)
            self.assertIs(self.judge(((0,), (), value)), False)
            self.assertIs(self.judge(((0,), (), (value,))), False)
            self.assertIs(self.judge(((0,), (), ((value, (), (4,)),))), False)
            self.assertIs(self.judge(((0,), (), (((1,), value, (4,)),))), empty)
            self.assertIs(self.judge(((0,), (), (((1,), (), value),))), False)
            self.assertIs(self.judge(((0,), (), (((1,), (), (value,)),))), False)
            self.assertIs(self.judge(((value,), (), (((1,), (), (4,)),))), value.__class__ is int and value == 0)

    def test_many_papers(self):
        source = random.Random(24)
        right = 0
        for _ in range(150):
            made = naive.random_machine(source, 3, 6)
            row = [naive.random_watch(source, made) for _ in range(source.choice((1, 1, 2)))]
            fault = source.choice(made.fault_names)
            runs = naive.all_runs(made, 3)[:30]
            ways = [()] + [way for many in (1, 2) for way in itertools.product(range(len(made.steps)), repeat=many)]
            for _ in range(200):
                run = source.choice(runs)
                thing = (run[:source.randrange(4)], run[source.randrange(4):], tuple(
                    (source.choice(runs[:10]), source.choice(ways[:5]), source.choice(ways)) for _ in row))
                many = source.choice((len(thing[1]), len(thing[1]), 1))
                expected = right_untold(made, row, fault, many, thing)
                self.assertIs(is_untold(made, row, fault, many, thing), expected)
                right += expected
        self.assertGreater(right, 50)


if __name__ == "__main__":
    unittest.main()
