"""Points [27] to [32]: estimates, what is known, telling rows, veils and their judge."""

import random
import unittest

from knownlate.errors import BadSights, BadWatch, KnowError, NoFault, TooMany
from knownlate.estimates import after, is_veil, known, telling, veil
from knownlate.machines import Machine
from knownlate.watches import Watch, all_seen, seeing
from tests import naive
from tests.samples import clock, deep_dict, deep_list, deep_tuple, fan, no_faults, no_watches, odd_objects, odd_rows
from tests.samples import own_list, same, tank, word

TWO = Machine(0, [(0, "a", 1), (0, "b", 1), (1, "c", 0), (1, "d", 2), (2, "e", 2)], {"a": "one", "b": "two", "e": "one"})

# All 1984 sets that this machine comes to by a, b and c are different estimates.
MANY_STEPS = [(0, "a", 0), (0, "b", 0), (0, "c", 0), (0, "a", 1), (0, "c", 1), (1, "a", 2), (2, "a", 3), (2, "c", 3),
              (3, "a", 4), (3, "c", 4), (6, "b", 8), (8, "a", 12)]
MANY_STEPS += [(at, each, (at + 1) % 13) for at in range(4, 13) for each in "abc"]


def many_estimates(more, faults):
    """A machine with 1984 estimates and so many more, which are those of a row of states behind the start."""
    chain = [(0, "d", 20)] + [(20 + at, "d", 21 + at) for at in range(more - 1)] + [(19 + more, "e", 19 + more)]
    return Machine(0, MANY_STEPS + chain, faults), seeing(["a", "b", "c", "d"])


class EstimatesCase(unittest.TestCase):
    def refuse(self, error, attribute, value, work, *args):
        with self.assertRaises(error) as caught:
            work(*args)
        self.assertIs(caught.exception.__class__, error)
        self.assertTrue(same(getattr(caught.exception, attribute), value), caught.exception.__dict__)


class After(EstimatesCase):
    def test_the_example(self):
        self.assertEqual(after(tank(), all_seen(tank()), ("fill",)), [(1, ()), (3, ("hole",))])

    def test_unseen_steps_belong_to_it(self):
        self.assertEqual(after(tank(), all_seen(tank()), ()), [(0, ()), (2, ("hole",))])
        self.assertEqual(after(tank(), Watch(), ()),
                         [(0, ()), (1, ()), (2, ("hole",)), (3, ("hole",))])
        self.assertEqual(after(tank(), seeing(["alarm"]), ("alarm",) * 3), [(3, ("hole",))])

    def test_several_words_under_one_sight(self):
        watch = Watch({"fill": "x", "drip": "x", "alarm": "x"})
        self.assertEqual(after(tank(), watch, ("x", "x")), [(0, ()), (2, ("hole",)), (3, ("hole",))])

    def test_several_faults(self):
        self.assertEqual(after(TWO, Watch({"c": "c"}), ("c",)), [
            (0, ("one",)), (0, ("two",)), (1, ("one",)), (1, ("one", "two")), (1, ("two",)),
            (2, ("one",)), (2, ("one", "two")), (2, ("two",))])
        self.assertEqual(after(TWO, seeing(["b", "c"]), ("b",)),
                         [(1, ("two",)), (2, ("one", "two")), (2, ("two",))])

    def test_seen_faults(self):
        self.assertEqual(after(tank(), seeing(["leak"]), ("leak",)), [(2, ("hole",)), (3, ("hole",))])

    def test_a_new_list_each_time(self):
        made = tank()
        after(made, Watch(), ()).clear()
        self.assertEqual(len(after(made, Watch(), ())), 4)

    def test_long_rows(self):
        row = ("fill", "drip") * 20000 + ("fill",)
        self.assertEqual(after(tank(), all_seen(tank()), row), [(1, ()), (3, ("hole",))])
        self.refuse(BadSights, "at", 40001, after, tank(), all_seen(tank()), row + ("fill",))

    def test_many_machines(self):
        source = random.Random(8)
        for _ in range(200):
            made = naive.random_machine(source)
            watch = naive.random_watch(source, made, "pq")
            for row in [row for many in range(4) for row in naive.rows(made, watch, many)][:30]:
                self.assertEqual(after(made, watch, row), sorted(naive.estimate(made, watch, row)))

    def test_no_watch(self):
        for value in no_watches():
            self.refuse(BadWatch, "value", value, after, tank(), value, 5)
            self.refuse(BadWatch, "value", value, known, tank(), value, ("fill",))

    def test_objects_that_are_no_tuples(self):
        for value in odd_objects() + odd_rows() + [None, 0, ["fill"], "fill", tank(), deep_list()]:
            if not isinstance(value, tuple):
                self.refuse(BadSights, "at", -1, after, tank(), all_seen(tank()), value)
                self.refuse(BadSights, "at", -1, known, tank(), all_seen(tank()), value)

    def test_items_that_are_no_names(self):
        for value in odd_objects() + odd_rows() + [None, 0, tank(), ("fill",)]:
            for work in (after, known):
                self.refuse(BadSights, "at", 0, work, tank(), all_seen(tank()), (value,))
                self.refuse(BadSights, "at", 1, work, tank(), all_seen(tank()), ("fill", value, "drip"))

    def test_sights_that_no_run_has(self):
        watch = Watch({"fill": "up", "alarm": "alarm", "other": "other"})
        for row, at in ((("fill",), 0), (("other",), 0), (("alarm",), 0), (("up", "up", "alarm", "up"), 3),
                        (("up", "up", "nope", None), 2), (("up", None, "nope"), 1), (("up",) * 3 + ("drip",), 3)):
            self.refuse(BadSights, "at", at, after, tank(), watch, row)
            self.refuse(BadSights, "at", at, known, tank(), watch, row)
        made = Machine(0, [(0, "a", 0), (1, "b", 1)])
        self.refuse(BadSights, "at", 1, after, made, all_seen(made), ("a", "b"))
        self.refuse(BadSights, "at", 0, after, tank(), Watch(), ("fill",))


class Known(EstimatesCase):
    def test_the_example(self):
        self.assertEqual(known(tank(), all_seen(tank()), ("fill",)), ([], ["hole"], []))

    def test_sure_unsure_out(self):
        watch = all_seen(tank())
        self.assertEqual(known(tank(), watch, ()), ([], ["hole"], []))
        self.assertEqual(known(tank(), watch, ("fill", "alarm")), (["hole"], [], []))
        self.assertEqual(known(tank(), seeing(["leak"]), ()), ([], [], ["hole"]))
        self.assertEqual(known(clock(), Watch(), ()), ([], [], []))
        made = fan(["a", "b", "c", "d", "z"])
        made = Machine(0, made.steps, {"a": "r", "b": "q", "c": "p"})
        self.assertEqual(known(made, seeing(["a", "b", "c", "d"]), ("b", "a", "d")), (["q", "r"], [], ["p"]))
        self.assertEqual(known(made, seeing(["a", "c"]), ("c", "c")), (["p"], ["q"], ["r"]))
        self.assertEqual(known(made, Watch(), ()), ([], ["p", "q", "r"], []))

    def test_faults_that_no_run_does(self):
        made = Machine(0, [(0, "a", 0), (1, "b", 0)], {"b": "far"})
        self.assertEqual(known(made, Watch(), ()), ([], [], ["far"]))

    def test_kinds(self):
        made = known(tank(), Watch(), ())
        self.assertEqual([made.__class__] + [each.__class__ for each in made], [tuple, list, list, list])
        made[1].clear()
        self.assertEqual(known(tank(), Watch(), ()), ([], ["hole"], []))

    def test_many_machines(self):
        source = random.Random(9)
        for _ in range(100):
            made = naive.random_machine(source)
            watch = naive.random_watch(source, made)
            for row in naive.rows(made, watch, 2)[:10]:
                pairs = naive.estimate(made, watch, row)
                sure = [name for name in made.fault_names if all(name in done for _, done in pairs)]
                out = [name for name in made.fault_names if not any(name in done for _, done in pairs)]
                unsure = [name for name in made.fault_names if name not in sure + out]
                self.assertEqual(known(made, watch, row), (sure, unsure, out))


class Telling(EstimatesCase):
    def test_the_example(self):
        self.assertEqual(telling(tank(), all_seen(tank()), "hole"), ("fill", "alarm"))

    def test_rows(self):
        self.assertEqual(telling(tank(), seeing(["leak"]), "hole"), ("leak",))
        self.assertEqual(telling(tank(), Watch({"leak": "x", "alarm": "a"}), "hole"), ("x",))
        self.assertEqual(telling(tank(), Watch({"drip": "x", "alarm": "a"}), "hole"), ("a",))
        self.assertEqual(telling(tank(), Watch({"leak": "x", "alarm": "x"}), "hole"), ("x",))
        self.assertIsNone(telling(tank(), Watch(), "hole"))
        self.assertIsNone(telling(tank(), Watch({"leak": "x", "fill": "x"}), "hole"))
        self.assertIsNone(telling(tank(), seeing(["fill"]), "hole"))

    def test_known_at_once(self):
        # All runs have the fault behind their first seen step, or the fault is the only step there is.
        made = Machine(0, [(0, "a", 1), (1, "b", 1)], {"a": "one"})
        self.assertEqual(telling(made, seeing(["b"]), "one"), ("b",))
        self.assertIsNone(telling(made, Watch(), "one"))

    def test_the_least_of_several(self):
        made = Machine(0, [(0, "q", 0), (0, "a", 1), (0, "b", 1), (1, "c", 1)], {"a": "one", "b": "one"})
        self.assertEqual(telling(made, Watch({"a": "z", "b": "y", "c": "x"}), "one"), ("y",))
        self.assertEqual(telling(made, Watch({"q": "a", "c": "x"}), "one"), ("x",))
        self.assertEqual(telling(made, Watch({"a": "z", "b": "y"}), "one"), ("y",))

    def test_a_fault_that_no_run_does(self):
        made = Machine(0, [(0, "a", 0), (1, "b", 0)], {"b": "far"})
        self.assertIsNone(telling(made, seeing(["a", "b"]), "far"))
        self.assertEqual(veil(made, seeing(["a", "b"]), "far"), [((), (0,))])

    def test_many_machines(self):
        source = random.Random(10)
        told = 0
        for _ in range(200):
            made = naive.random_machine(source)
            watch = naive.random_watch(source, made, "pq")
            found = naive.estimates(made, watch)
            for fault in made.fault_names:
                rows = [row for each, row in found.items() if all(fault in done for _, done in each)]
                expected = min(rows, key=lambda row: (len(row), row)) if rows else None
                self.assertEqual(telling(made, watch, fault), expected)
                told += expected is not None
                if expected is None:
                    items = sorted({(tuple(sorted({state for state, done in each if fault in done})),
                                     tuple(sorted({state for state, done in each if fault not in done})))
                                    for each in found})
                    self.assertEqual(veil(made, watch, fault), items)
                else:
                    self.assertIsNone(veil(made, watch, fault))
        self.assertGreater(told, 50)

    def test_errors(self):
        for work in (telling, veil, lambda machine, watch, fault: is_veil(machine, watch, fault, [])):
            for value in no_watches():
                self.refuse(BadWatch, "value", value, work, tank(), value, "other")
            for value in no_faults():
                self.refuse(NoFault, "name", value, work, tank(), Watch(), value)
            self.refuse(NoFault, "name", "hole", work, clock(), Watch(), "hole")


class Limits(EstimatesCase):
    def test_2000_estimates(self):
        made, watch = many_estimates(16, {"e": "end"})
        self.assertIsNone(telling(made, watch, "end"))
        found = veil(made, watch, "end")
        self.assertEqual([len(found), found == sorted(set(found))], [2000, True])
        self.assertIs(is_veil(made, watch, "end", found), True)
        self.assertIs(is_veil(made, watch, "end", found[1:]), False)

    def test_2001_estimates(self):
        made, watch = many_estimates(17, {"e": "end"})
        for work in (telling, veil):
            self.refuse(TooMany, "limit", 2000, work, made, watch, "end")
        self.assertIs(is_veil(made, watch, "end", []), False)
        self.assertEqual(len(after(made, watch, ("d",) * 17)), 2)

    def test_estimates_of_other_faults_count(self):
        # The last step is a fault that is seen: one more estimate, of the same state with the fault.
        made, watch = many_estimates(15, {"e": "end"})
        watch["e"] = "e"
        self.assertEqual(telling(made, watch, "end"), ("d",) * 15 + ("e",))
        made, watch = many_estimates(16, {"e": "end", "b": "other"})
        watch["e"] = "e"
        self.refuse(TooMany, "limit", 2000, telling, made, watch, "end")

    def test_ahead_of_a_row_that_comes_soon(self):
        made, watch = many_estimates(17, {"e": "end"})
        made = Machine(0, made.steps + [(0, "f", 0)], {"e": "end", "f": "soon"})
        watch["f"] = "f"
        self.refuse(TooMany, "limit", 2000, telling, made, watch, "soon")
        self.refuse(TooMany, "limit", 2000, veil, made, watch, "soon")
        self.refuse(NoFault, "name", "d", telling, made, watch, "d")

    def test_a_few_thousand_estimates_are_found_soon(self):
        made = Machine(0, [(0, "a", 0), (0, "b", 0), (0, "a", 1)]
                       + [(at, each, at + 1) for at in range(1, 30) for each in "ab"] + [(30, "z", 30)], {"z": "end"})
        self.refuse(TooMany, "limit", 2000, telling, made, seeing(["a", "b"]), "end")

    def test_machines_of_80_states(self):
        steps = [(at, word(at % 14), (at + 1) % 80) for at in range(80)]
        made = Machine(0, steps, {word(0): "a", word(1): "b", word(2): "c"})
        self.assertEqual(telling(made, Watch({word(3): "x"}), "a"), ("x",))
        self.assertEqual(len(after(made, Watch(), ())), 3 + 80)


class Veil(EstimatesCase):
    PAPER = [((2,), (0,)), ((2, 3), (0, 1))]

    def judge(self, thing):
        return is_veil(tank(), seeing(["fill"]), "hole", thing)

    def test_the_example(self):
        self.assertEqual(veil(tank(), seeing(["fill"]), "hole"), self.PAPER)
        self.assertIsNone(veil(tank(), all_seen(tank()), "hole"))
        self.assertIs(self.judge(self.PAPER), True)

    def test_changes_of_what_was_returned_have_no_effect(self):
        made, watch = tank(), seeing(["fill"])
        veil(made, watch, "hole").clear()
        self.assertEqual(veil(made, watch, "hole"), self.PAPER)

    def test_states_of_items_are_ascending(self):
        made = Machine(64, [(64, "a", 8), (8, "a", 99), (99, "a", 1), (1, "a", 64), (1, "z", 33), (33, "a", 8)],
                       {"z": "end"})
        self.assertEqual(veil(made, Watch(), "end"), [((1, 8, 33, 64, 99), (1, 8, 64, 99))])

    def test_two_estimates_with_one_item(self):
        # They differ in the other fault alone.
        made = Machine(0, [(0, "a", 0), (0, "b", 0)], {"a": "one", "b": "two"})
        self.assertEqual(veil(made, seeing(["a"]), "two"), [((0,), (0,))])

    def test_other_papers(self):
        self.assertIs(self.judge(self.PAPER[::-1]), True)
        self.assertIs(self.judge(self.PAPER * 3), True)
        self.assertIs(self.judge(self.PAPER + [((), (1,))]), True)
        self.assertIs(self.judge(self.PAPER + [((), (0,))]), False)
        self.assertIs(self.judge(self.PAPER + [((), (3,))]), True)
        self.assertIs(self.judge(self.PAPER + [((3,), (3,))]), True)
        self.assertIs(self.judge(self.PAPER + [((2,), (2,))]), False)
        self.assertIs(self.judge(self.PAPER + [((2,), (2,)), ((3,), (3,))]), True)
        self.assertIs(self.judge(self.PAPER + [((2,), (2,)), ((3,), (1,))]), False)

    def test_items_are_taken_as_they_stand(self):
        # An unseen step leads from 1 to 0 and on, and it is not done ahead of the next sight.
        self.assertIs(self.judge(self.PAPER + [((), (1, 3))]), True)
        made = Machine(0, [(0, "u", 1), (1, "a", 1), (0, "a", 2), (2, "z", 2), (2, "a", 2)], {"z": "end"})
        first = [((), (0, 1)), ((2,), (1, 2))]
        self.assertEqual(veil(made, seeing(["a"]), "end"), first)
        self.assertIs(is_veil(made, seeing(["a"]), "end", first + [((), (0,))]), False)
        self.assertIs(is_veil(made, seeing(["a"]), "end", first + [((), (0,)), ((2,), (2,))]), True)
        self.assertIs(is_veil(made, seeing(["a"]), "end", first + [((), (1,))]), True)

    def test_wrong_papers(self):
        for thing in ([], self.PAPER[:1], self.PAPER[1:], [((), (0,)), self.PAPER[1]], tuple(self.PAPER),
                      [((2,), (0,)), ((2, 3), (0,))], [((2,), ()), self.PAPER[1]], self.PAPER + [((2, 3), ())],
                      self.PAPER + [((), ())], self.PAPER + [((3, 2), (0, 1))], self.PAPER + [((2, 2), (0,))],
                      self.PAPER + [((), (4,))], self.PAPER + [((), (True,))], self.PAPER + [([], (3,))],
                      self.PAPER + [((), [3])], self.PAPER + [[(), (3,)]], self.PAPER + [((), (3,), ())],
                      self.PAPER + [((),)], self.PAPER + [()], self.PAPER + [None], self.PAPER + [(3, 3)],
                      self.PAPER + [((), (3.0,))], {item: True for item in self.PAPER}, [((False,), (3,))]):
            self.assertIs(self.judge(thing), False, thing)

    def test_unreached_states(self):
        made = Machine(0, [(0, "a", 0), (1, "b", 1)], {"b": "far"})
        self.assertIs(is_veil(made, seeing(["a"]), "far", [((), (0,))]), True)
        self.assertIs(is_veil(made, seeing(["a"]), "far", [((), (0,)), ((), (1,))]), False)

    def test_any_object(self):
        for value in odd_objects() + odd_rows() + [None, 0, tank(), own_list(), Watch()]:
            self.assertIs(self.judge(value), False)
            self.assertIs(self.judge(self.PAPER + [value]), False)
            self.assertIs(self.judge(self.PAPER + [(value, (3,))]), value == () and value.__class__ is tuple)
            self.assertIs(self.judge(self.PAPER + [((), value)]), False)
            self.assertIs(self.judge(self.PAPER + [((), (value,))]), False)
        for value in (deep_list(), deep_tuple(), deep_dict()):
            self.assertIs(self.judge([((2,), value)]), False)

    def random_item(self, source, machine):
        having = tuple(each for each in machine.states if source.random() < 0.4)
        return having, tuple(each for each in machine.states if source.random() < 0.5)

    def closed_paper(self, source, machine, watch, fault, paper):
        """The paper with a few items of other sets of states, and what comes of them."""
        steps = machine.steps
        thing = list(paper) + [self.random_item(source, machine) for _ in range(source.randrange(3))]
        for having, lacking in thing:
            pairs = {(state, True) for state in having} | {(state, False) for state in lacking}
            for sign in watch.sights:
                entered = {(target, had or machine.faults.get(each) == fault) for state, had in pairs
                           for source_state, each, target in steps if source_state == state and watch[each] == sign}
                entered = naive.closed_estimate(machine, watch, fault, entered)
                item = (tuple(sorted(state for state, had in entered if had)),
                        tuple(sorted(state for state, had in entered if not had)))
                if entered and item not in thing:
                    thing.append(item)
        return thing

    def test_many_papers(self):
        source = random.Random(12)
        seen = {True: 0, False: 0}
        for _ in range(400):
            made = naive.random_machine(source)
            watch = naive.random_watch(source, made, "pq")
            fault = source.choice(made.fault_names)
            paper = veil(made, watch, fault)
            if paper is None:
                continue
            for _ in range(4):
                thing = self.closed_paper(source, made, watch, fault, paper)
                source.shuffle(thing)
                if source.random() < 0.3:
                    thing.append(self.random_item(source, made))
                if source.random() < 0.3 and thing:
                    thing.pop()
                expected = naive.is_veil(made, watch, fault, thing)
                self.assertIs(is_veil(made, watch, fault, thing), expected)
                seen[expected] += 1
        self.assertGreater(min(seen.values()), 100)


class Unchanged(EstimatesCase):
    def test_arguments_stay_as_they_are(self):
        made, watch, paper = tank(), seeing(["fill"]), [((2,), (0,)), ((2, 3), (0, 1))]
        for work in (lambda: after(made, watch, ("fill",)), lambda: known(made, watch, ()),
                     lambda: telling(made, watch, "hole"), lambda: veil(made, watch, "hole"),
                     lambda: is_veil(made, watch, "hole", paper), lambda: after(made, watch, ("x",)),
                     lambda: telling(made, watch, "x")):
            try:
                one = work()
                self.assertEqual(one, work())
            except KnowError:
                pass
            self.assertEqual([made, watch, paper], [tank(), seeing(["fill"]), Veil.PAPER])


if __name__ == "__main__":
    unittest.main()
