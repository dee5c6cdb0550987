"""Points [22] to [26]: runs, what a watch sees of them, all rows of sights, and shortest runs."""

import random
import time
import unittest
from unittest import mock

from knownlate.errors import BadCount, BadRun, BadState, BadWatch, NoFault
from knownlate.machines import Machine
from knownlate.runs import alike, end_of, faults_in, rows_of, shortest_to, sights_of, steps_behind
from knownlate.spread import Spread
from knownlate.watches import Watch, all_seen, seeing
from tests import naive
from tests.samples import clock, deep_list, deep_tuple, fan, no_counts, no_faults, no_watches, odd_objects, odd_rows
from tests.samples import ring, same, tank


class RunsCase(unittest.TestCase):
    def refuse(self, error, attribute, value, work, *args):
        with self.assertRaises(error) as caught:
            work(*args)
        self.assertIs(caught.exception.__class__, error)
        self.assertTrue(same(getattr(caught.exception, attribute), value), caught.exception.__dict__)


class Runs(RunsCase):
    def test_ends(self):
        for run, end in (((), 0), ((0,), 1), ((1,), 2), ((0, 2), 0), ((0, 2, 1, 3), 3), ((1, 3, 4, 4, 4), 3)):
            self.assertEqual(end_of(tank(), run), end)
        self.assertEqual(end_of(clock(), ()), 7)

    def test_faults(self):
        made = Machine(0, [(0, "a", 0), (0, "b", 0), (0, "c", 0), (0, "d", 0)], {"a": "two", "b": "one", "c": "two"})
        for run, names in (((), []), ((3,), []), ((0,), ["two"]), ((0, 1), ["one", "two"]), ((2, 0, 3, 2), ["two"])):
            self.assertEqual(faults_in(made, run), names)
        self.assertEqual(faults_in(tank(), (0, 2, 1)), ["hole"])

    def test_sights(self):
        watch = Watch({"fill": "up", "alarm": "up", "drip": "down", "other": "up"})
        for run, row in (((), ()), ((0,), ("up",)), ((1,), ()), ((0, 2, 1, 3, 4), ("up", "down", "up", "up"))):
            self.assertEqual(sights_of(tank(), watch, run), row)
        self.assertEqual(sights_of(tank(), Watch(), (0, 2, 1)), ())
        self.assertEqual(sights_of(tank(), Watch({"leak": "up"}), (0, 2, 1)), ("up",))

    def test_steps_behind(self):
        for run, many in (((), None), ((0, 2), None), ((1,), 0), ((0, 2, 1), 0), ((1, 3, 4, 4), 3)):
            self.assertEqual(steps_behind(tank(), run, "hole"), many)
        made = Machine(0, [(0, "a", 0), (0, "b", 0), (0, "c", 0)], {"a": "one", "b": "two", "c": "one"})
        self.assertEqual(steps_behind(made, (1, 2, 0, 1), "one"), 2)
        self.assertEqual(steps_behind(made, (1, 2, 0, 1), "two"), 3)

    def test_alike(self):
        watch = seeing(["fill"])
        for one, other, expected in (((), (1,), True), ((0,), (1, 3, 4, 4), True), ((0,), (), False),
                                     ((0, 2, 0), (0,), False), ((0, 2, 0), (0, 2, 1, 3), True)):
            self.assertIs(alike(tank(), watch, one, other), expected)
            self.assertIs(alike(tank(), watch, other, one), expected)
        self.assertIs(alike(tank(), Watch({"fill": "up", "drip": "up"}), (0, 2), (0, 2, 1, 3)), False)
        self.assertIs(alike(tank(), Watch({"fill": "up", "alarm": "up"}), (1, 3, 4), (0, 2, 0)), True)

    def test_long_runs(self):
        run = (0, 2) * 20000 + (1, 3) + (4,) * 10000
        self.assertEqual([end_of(tank(), run), faults_in(tank(), run)], [3, ["hole"]])
        self.assertEqual(steps_behind(tank(), run, "hole"), 10001)
        self.assertEqual(len(sights_of(tank(), all_seen(tank()), run)), 50001)
        self.refuse(BadRun, "at", 50002, end_of, tank(), run + (0,))

    def test_all_short_runs(self):
        source = random.Random(2)
        for _ in range(60):
            made = naive.random_machine(source)
            watch, fault = naive.random_watch(source, made, "pq"), source.choice(made.fault_names)
            for run in naive.all_runs(made, 3)[:200]:
                words = [made.steps[number][1] for number in run]
                self.assertEqual(end_of(made, run), made.steps[run[-1]][2] if run else made.start)
                self.assertEqual(faults_in(made, run), sorted(naive.names_done(made, run)))
                self.assertEqual(sights_of(made, watch, run), naive.sights(made, watch, run))
                at = [made.faults.get(each) for each in words].index(fault) if fault in faults_in(made, run) else None
                self.assertEqual(steps_behind(made, run, fault), None if at is None else len(run) - at - 1)

    def works(self):
        """The functions of a run, each as a function of the run alone."""
        watch = all_seen(tank())
        return [lambda run: end_of(tank(), run), lambda run: faults_in(tank(), run),
                lambda run: sights_of(tank(), watch, run), lambda run: steps_behind(tank(), run, "hole"),
                lambda run: steps_behind(tank(), run, "other"), lambda run: alike(tank(), watch, run, ()),
                lambda run: alike(tank(), watch, (), run), lambda run: alike(tank(), watch, run, 5)]

    def test_objects_that_are_no_tuples(self):
        for value in odd_objects() + odd_rows() + [None, 0, [], [0], "fill", tank(), deep_list(), range(2)]:
            if not isinstance(value, tuple):
                for work in self.works():
                    self.refuse(BadRun, "at", -1, work, value)

    def test_wrong_items(self):
        for value in odd_objects() + odd_rows() + [None, -1, 5, 4, 3, 2, True, False, 0.0, deep_tuple(), (0,)]:
            for work in self.works():
                self.refuse(BadRun, "at", 0, work, (value,))
                self.refuse(BadRun, "at", 0, work, (value, value, 0))
        for value in odd_objects() + [None, 0, 1, 3, 4, 5, -3, True]:
            for work in self.works():
                self.refuse(BadRun, "at", 1, work, (0, value, 2))
                self.refuse(BadRun, "at", 3, work, (0, 2, 0, value, None))

    def test_steps_that_no_run_does(self):
        made = Machine(0, [(1, "a", 0), (0, "b", 0)])
        self.refuse(BadRun, "at", 0, end_of, made, (0,))
        self.refuse(BadRun, "at", 2, end_of, made, (1, 1, 0))

    def test_the_order_of_errors(self):
        self.refuse(BadWatch, "value", None, sights_of, tank(), None, 5)
        self.refuse(BadWatch, "value", None, alike, tank(), None, 5, 6)
        self.refuse(BadRun, "at", 0, alike, tank(), Watch(), (5,), 6)
        self.refuse(BadRun, "at", -1, alike, tank(), Watch(), (), [])
        self.refuse(BadRun, "at", 1, steps_behind, tank(), (0, 0), "other")
        self.refuse(NoFault, "name", "other", steps_behind, tank(), (0, 2), "other")

    def test_watches_and_faults(self):
        for value in no_watches():
            self.refuse(BadWatch, "value", value, sights_of, tank(), value, ())
            self.refuse(BadWatch, "value", value, alike, tank(), value, (), ())
        for value in no_faults():
            self.refuse(NoFault, "name", value, steps_behind, tank(), (), value)
        self.refuse(NoFault, "name", "tick", steps_behind, clock(), (), "tick")


class Rows(RunsCase):
    def test_the_example(self):
        self.assertEqual(list(rows_of(tank(), all_seen(tank()), 2)), [("fill", "alarm"), ("fill", "drip")])

    def test_small_counts(self):
        watch = all_seen(tank())
        self.assertEqual(list(rows_of(tank(), watch, 0)), [()])
        self.assertEqual(list(rows_of(tank(), watch, 1)), [("fill",)])
        self.assertEqual(list(rows_of(tank(), Watch(), 0)), [()])
        self.assertEqual(list(rows_of(tank(), Watch(), 1)), [])
        self.assertEqual(list(rows_of(tank(), seeing(["other"]), 1)), [])

    def test_8_sights(self):
        self.assertEqual(list(rows_of(clock(), seeing(["tick"]), 8)), [("tick",) * 8])
        found = list(rows_of(fan(["a", "b"]), Watch({"a": "z", "b": "y"}), 8))
        self.assertEqual([len(found), found[0], found[-1]], [256, ("y",) * 8, ("z",) * 8])
        self.assertEqual(found, sorted(set(found)))

    def test_several_words_under_one_sight(self):
        made = fan(["a", "b", "c"])
        self.assertEqual(list(rows_of(made, Watch({"a": "x", "b": "x"}), 3)), [("x", "x", "x")])

    def test_steps_that_no_run_does(self):
        made = Machine(0, [(0, "a", 0), (1, "b", 0)])
        self.assertEqual(list(rows_of(made, all_seen(made), 2)), [("a", "a")])

    def test_rows_that_end(self):
        made = Machine(0, [(0, "a", 1), (0, "b", 0), (1, "c", 2), (2, "d", 2)])
        self.assertEqual(list(rows_of(made, seeing(["a", "c"]), 2)), [("a", "c")])
        self.assertEqual(list(rows_of(made, seeing(["a", "c"]), 3)), [])

    def test_it_is_a_generator(self):
        made = rows_of(tank(), all_seen(tank()), 2)
        self.assertIs(iter(made), made)
        self.assertEqual(made.__class__, (each for each in ()).__class__)
        self.assertEqual([next(made), next(made), next(made, "end")], [("fill", "alarm"), ("fill", "drip"), "end"])

    def test_stopped_early(self):
        words = [each * 2 for each in "abcdefgh"]
        begun = time.monotonic()
        made = rows_of(fan(words), seeing(words), 8)
        self.assertEqual([next(made), next(made)], [("aa",) * 8, ("aa",) * 7 + ("bb",)])
        made.close()
        self.assertLess(time.monotonic() - begun, 5)

    def test_dead_ends_are_not_walked(self):
        # Very many rows of seven sights cannot be made longer, but one row of eight stands behind them all.
        words = "abcdefg"
        steps = [(at, each, at + 1) for at in range(7) for each in words] + [(7, "u", 7)]
        steps += [(0, "z", 10)] + [(at, "z", at + 1) for at in range(10, 17)] + [(17, "u", 17)]
        made = Machine(0, steps)
        with mock.patch.object(Spread, "beyond", autospec=True, side_effect=Spread.beyond) as beyond:
            self.assertEqual(list(rows_of(made, seeing(list(words) + ["z"]), 8)), [("z",) * 8])
        self.assertEqual(beyond.call_count, 8)

    def test_many_machines(self):
        source = random.Random(4)
        for _ in range(150):
            made = naive.random_machine(source)
            watch = naive.random_watch(source, made, "pq")
            for many in range(5):
                self.assertEqual(list(rows_of(made, watch, many)), naive.rows(made, watch, many))

    def test_errors_come_with_the_first_item(self):
        for value in no_watches():
            made = rows_of(tank(), value, 2)
            self.refuse(BadWatch, "value", value, next, made)
        for value in no_counts(8):
            made = rows_of(tank(), Watch(), value)
            self.refuse(BadCount, "value", value, next, made)
        self.refuse(BadWatch, "value", None, next, rows_of(tank(), None, 9))

    def test_asked_again(self):
        made, watch = tank(), all_seen(tank())
        one, other = rows_of(made, watch, 3), rows_of(made, watch, 3)
        self.assertEqual(list(one), list(other))
        self.assertEqual([made, watch], [tank(), all_seen(tank())])


class Shortest(RunsCase):
    def test_tank(self):
        self.assertEqual([shortest_to(tank(), at) for at in range(4)], [(), (0,), (1,), (1, 3)])
        self.assertEqual(shortest_to(clock(), 7), ())

    def test_the_least_of_several(self):
        made = Machine(0, [(0, "a", 2), (0, "a", 1), (2, "b", 3), (1, "a", 3), (0, "b", 1), (3, "a", 3)])
        self.assertEqual(shortest_to(made, 3), (0, 2))
        other = Machine(0, [(2, "b", 3), (0, "a", 1), (0, "a", 2), (1, "a", 3), (3, "a", 3)])
        self.assertEqual(shortest_to(other, 3), (1, 3))
        self.assertEqual(shortest_to(Machine(0, [(0, "b", 1), (0, "a", 1), (1, "a", 0)]), 1), (0,))

    def test_far_states(self):
        self.assertEqual(shortest_to(ring(80), 79), tuple(range(79)))

    def test_many_machines(self):
        source = random.Random(6)
        for _ in range(150):
            made = naive.random_machine(source, 5, 9)
            for state in made.states:
                ends = [run for run in naive.all_runs(made, 4) if end_of(made, run) == state]
                self.assertEqual(shortest_to(made, state), min(ends, key=lambda run: (len(run), run)))

    def test_wrong_states(self):
        for value in odd_objects() + odd_rows() + [None, 4, 99, True, 0.0, "0", tank()]:
            self.refuse(BadState, "value", value, shortest_to, tank(), value)
        self.refuse(BadState, "value", 1, shortest_to, Machine(0, [(0, "a", 0), (1, "a", 1)]), 1)
        self.refuse(BadState, "value", 0, shortest_to, clock(), 0)


if __name__ == "__main__":
    unittest.main()
