"""Points [51] to [54]: whether a watch tells all that another one tells, and two runs that show that it does not."""

import random
import unittest

from knownlate.errors import BadWatch
from knownlate.finer import finer, is_unlike, same_sight, unlike
from knownlate.machines import Machine
from knownlate.runs import alike
from knownlate.watches import Watch, all_seen, seeing
from tests import naive
from tests.cases import Case
from tests.samples import deep_dict, deep_list, deep_tuple, fan, no_watches, odd_objects, odd_rows, own_list, ring, tank
from tests.test_late import SMOKE, many_tuples


def slow_unlike(machine, one, other, most):
    """The least sum of the lengths of two runs as in point [52], or None if it is greater than `most`."""
    found = {}
    for run in naive.all_runs(machine, most):
        rows = found.setdefault(naive.sights(machine, one, run), {})
        rows.setdefault(naive.sights(machine, other, run), len(run))
    sums = [sum(sorted(rows.values())[:2]) for rows in found.values() if len(rows) > 1]
    return min([each for each in sums if each <= most], default=None)


class FinerCase(Case):
    def check(self, machine, one, other, length):
        """All answers are right, and the lengths of the two runs have this sum; None if there are none."""
        found = unlike(machine, one, other)
        self.assertIs(finer(machine, one, other), length is None)
        if length is None:
            self.assertIsNone(found)
            return
        self.assertEqual([found.__class__, len(found), found[0].__class__, found[1].__class__],
                         [tuple, 2, tuple, tuple])
        self.assertIs(alike(machine, one, *found), True)
        self.assertIs(alike(machine, other, *found), False)
        self.assertEqual(len(found[0]) + len(found[1]), length)
        self.assertIs(is_unlike(machine, one, other, found), True)
        self.assertIs(is_unlike(machine, one, other, found[::-1]), True)
        self.assertIs(is_unlike(machine, other, one, found), False)


class Finer(FinerCase):
    def test_the_example(self):
        self.assertIs(finer(SMOKE, seeing(["go", "on"]), seeing(["go"])), True)
        self.assertIs(finer(SMOKE, seeing(["go"]), seeing(["go", "on"])), False)
        self.check(SMOKE, seeing(["go"]), seeing(["go", "on"]), 3)
        self.assertIs(is_unlike(SMOKE, seeing(["go"]), seeing(["go", "on"]), ((1, 4), (1,))), True)

    def test_equal_watches(self):
        for watch in (Watch(), all_seen(tank()), Watch({"fill": "x", "drip": "x", "leak": "x"})):
            self.check(tank(), watch, watch, None)
            self.check(tank(), watch, watch.copy(), None)
            self.check(tank(), watch, Watch(), None)
            self.assertIs(same_sight(tank(), watch, watch.copy()), True)

    def test_sights_with_other_names(self):
        one, other = Watch({"fill": "a", "drip": "b"}), Watch({"fill": "b", "drip": "a"})
        self.check(tank(), one, other, None)
        self.assertIs(same_sight(tank(), one, other), True)
        together = Watch({"fill": "x", "drip": "x"})
        # Ahead of the leak, fill and drip come by turns, and behind it there is no drip: the order tells all.
        self.check(tank(), together, one, None)
        self.assertIs(same_sight(tank(), together, one), True)
        self.check(tank(), one, together, None)

    def test_several_words_under_one_sight(self):
        made = fan(["a", "b", "c"])
        self.check(made, seeing(["a", "b"]), Watch({"a": "x", "b": "x"}), None)
        self.check(made, Watch({"a": "x", "b": "x"}), seeing(["a", "b"]), 2)
        self.check(made, Watch({"a": "x", "b": "x"}), Watch({"a": "x", "b": "x", "c": "x"}), 1)
        self.check(made, Watch({"a": "x", "b": "x", "c": "x"}), Watch({"a": "x", "b": "x"}), 2)
        self.assertIs(same_sight(made, seeing(["a", "b"]), Watch({"a": "x", "b": "x"})), False)

    def test_a_step_that_only_the_other_watch_sees(self):
        for many in range(6):
            steps = [(at, "u", at + 1) for at in range(many)] + [(many, "see", many)]
            self.check(Machine(0, steps), Watch(), seeing(["see"]), many + 1)
            self.check(Machine(0, steps), Watch({"u": "x"}), seeing(["see"]), 2 * many + 1)

    def test_steps_that_no_run_does_mean_nothing(self):
        made = Machine(0, [(0, "a", 0), (1, "b", 1), (1, "a", 0)])
        self.check(made, seeing(["a"]), seeing(["a", "b", "q"]), None)
        self.assertIs(same_sight(made, seeing(["a", "q"]), Watch({"a": "x", "b": "x"})), True)
        self.check(made, Watch({"q": "a"}), Watch({"b": "x"}), None)

    def test_neither_is_finer(self):
        made = fan(["a", "b"])
        self.check(made, seeing(["a"]), seeing(["b"]), 1)
        self.check(made, seeing(["b"]), seeing(["a"]), 1)
        self.assertIs(same_sight(made, seeing(["a"]), seeing(["b"])), False)
        self.assertIs(same_sight(made, seeing(["a"]), seeing(["a", "b"])), False)
        self.assertIs(same_sight(made, seeing(["a", "b"]), seeing(["a"])), False)

    def test_the_same_sight_and_other_sights_far_away(self):
        # The two runs go apart by two unseen steps of one and one of the other, and meet a sight that is not the same.
        made = Machine(0, [(0, "u", 1), (1, "u", 2), (2, "a", 3), (0, "v", 4), (4, "b", 3), (3, "c", 3)])
        self.check(made, Watch({"a": "x", "b": "x"}), seeing(["a", "b"]), 5)
        self.check(made, Watch({"a": "x", "b": "x", "u": "u", "v": "v"}), seeing(["a", "b"]), None)
        self.check(made, Watch({"a": "x", "b": "x", "u": "u", "v": "u"}), seeing(["a", "b"]), None)
        # A seen step that the other watch does not see is the shorter way, though it is found by more moves.
        made = Machine(0, [(0, "s", 0), (0, "u", 1), (1, "u", 2), (2, "a", 0), (2, "b", 0)])
        self.check(made, Watch({"s": "x", "a": "x", "b": "x"}), seeing(["a", "b"]), 4)

    def test_runs_of_different_lengths(self):
        made = Machine(0, [(0, "u", 1), (1, "u", 2), (2, "a", 3), (3, "a", 3), (0, "b", 3)])
        self.check(made, Watch({"a": "x", "b": "x"}), seeing(["a", "b"]), 4)
        self.check(made, Watch({"a": "x", "b": "x"}), Watch({"a": "x", "b": "x", "u": "u"}), 1)

    def test_long_runs(self):
        # Two rings of 7 and 8 steps, both begun by a seen step; the sights are the same until both end their rings.
        steps = [(0, "s", 1), (0, "s", 10)] + [(at, "t", at % 7 + 1) for at in range(1, 8)]
        steps += [(10 + at, "t", 10 + (at + 1) % 8) for at in range(8)] + [(7, "a", 20), (17, "b", 20), (20, "t", 20)]
        made = Machine(0, steps)
        self.check(made, Watch({"s": "s", "t": "t", "a": "x", "b": "x"}), seeing(["s", "t", "a", "b"]), 114)
        self.check(made, Watch({"t": "t", "a": "x", "b": "x"}), Watch({"t": "t", "s": "t"}), 1)
        self.check(made, Watch({"s": "s", "a": "x", "b": "x"}), seeing(["s", "a", "b"]), 17)

    def test_many_pairs(self):
        made, _ = many_tuples(0)
        self.check(made, Watch(), all_seen(made), 1)
        self.check(made, all_seen(made), Watch(), None)
        self.check(ring(80), Watch(), Watch({"go": "x"}), 1)
        steps = [(at, "u", at + 1) for at in range(78)] + [(78, "a", 78), (78, "b", 78)]
        self.check(Machine(0, steps), Watch({"a": "x", "b": "x"}), seeing(["a", "b"]), 158)
        self.check(Machine(0, steps), Watch({"a": "x", "b": "x"}), seeing(["q"]), None)

    def test_many_machines(self):
        source = random.Random(25)
        seen = {}
        for _ in range(500):
            made = naive.random_machine(source, 4, 6)
            one, other = (naive.random_watch(source, made, "pq") for _ in range(2))
            if source.random() < 0.5:
                other = Watch({each: "v" if source.random() < 0.3 else one[each] for each in one.words})
            found = unlike(made, one, other)
            length = None if found is None else len(found[0]) + len(found[1])
            expected = slow_unlike(made, one, other, 5)
            if expected is not None or length is None or length <= 5:
                self.assertEqual(length, expected)
            self.check(made, one, other, length)
            self.assertIs(same_sight(made, one, other), finer(made, one, other) and finer(made, other, one))
            self.assertIs(same_sight(made, one, other), same_sight(made, other, one))
            seen[length] = seen.get(length, 0) + 1
        self.assertTrue(set(seen) >= {None, 1, 2, 3, 4, 5}, seen)
        self.assertGreater(seen[None], 50)

    def test_arguments_and_answers(self):
        made, one, other = tank(), seeing(["fill"]), seeing(["fill", "drip"])
        self.assertEqual(unlike(made, one, other), unlike(tank(), one.copy(), other.copy()))
        self.assertEqual([made, one, other], [tank(), seeing(["fill"]), seeing(["fill", "drip"])])
        one["drip"] = "drip"
        self.check(made, one, other, None)


class Errors(FinerCase):
    def test_no_watches(self):
        for value in no_watches():
            for work in (finer, unlike, same_sight, lambda *args: is_unlike(*args, 5)):
                self.refuse(BadWatch, "value", value, work, tank(), value, Watch())
                self.refuse(BadWatch, "value", value, work, tank(), Watch(), value)
                self.refuse(BadWatch, "value", value, work, tank(), value, 5)
                self.refuse(BadWatch, "value", value, work, tank(), Watch({"fill": "x"}), value)

    def test_nothing_has_changed(self):
        made, one = tank(), seeing(["fill"])
        for work in (finer, unlike, same_sight):
            for args in ((one, None), (None, one)):
                with self.assertRaises(BadWatch):
                    work(made, *args)
        self.assertEqual([made, one], [tank(), seeing(["fill"])])


class Judge(FinerCase):
    def judge(self, thing):
        return is_unlike(SMOKE, seeing(["go"]), seeing(["go", "on"]), thing)

    def test_right_papers(self):
        for thing in (((1, 4), (1,)), ((1,), (1, 4)), ((0,), (1, 4)), ((0, 2, 3, 3), (1, 4, 4)), ((1, 4, 4), (1, 4))):
            self.assertIs(self.judge(thing), True)

    def test_wrong_papers(self):
        for thing in (((1,), (1,)), ((0,), (1,)), ((), ()), ((), (1,)), ((), (1, 4)), ((1, 4), (1, 4)), ((1, 4),),
                      ((1, 4), (1,), ()), (), [(1, 4), (1,)], ([1, 4], (1,)), ((1, 4), [1]), ((1, 4), (True,)),
                      ((1, 4.0), (1,)), ((1, 5), (1,)), ((1, -1), (1,)), ((1, 2), (1,)), ((4,), ()), ((1, 4), 1),
                      (1, 4), ((1, None), (1,)), ((1, (4,)), (1,)), {(1, 4): (1,)}, "ab"):
            self.assertIs(self.judge(thing), False, thing)

    def test_any_object(self):
        for value in odd_objects() + odd_rows() + [None, 0, tank(), own_list(), Watch(), deep_list(), deep_tuple(),
                                                   deep_dict()]:
            self.assertIs(self.judge(value), False)
            self.assertIs(self.judge((value, (1,))), False)
            self.assertIs(self.judge(((1, 4), value)), value.__class__ is tuple and value == (0,))
            self.assertIs(self.judge(((1, value), (1,))), False)

    def test_all_small_papers(self):
        source = random.Random(26)
        right = 0
        for _ in range(60):
            made = naive.random_machine(source, 3, 6)
            one, other = (naive.random_watch(source, made) for _ in range(2))
            runs = naive.all_runs(made, 3)[:15]
            for left in runs:
                for right_run in runs + [(len(made.steps),), (0, 0, 0)]:
                    thing = (left, right_run)
                    expected = right_run in naive.all_runs(made, 3) and alike(made, one, *thing) and (
                        not alike(made, other, *thing))
                    self.assertIs(is_unlike(made, one, other, thing), expected)
                    right += expected
        self.assertGreater(right, 300)


if __name__ == "__main__":
    unittest.main()
