"""Points [55] to [60]: which words are enough, the least and the cheapest sets, and what shows that none is cheaper."""

import itertools
import random
import unittest

from knownlate.errors import BadCosts, BadCount, BadRun, BadWord, KnowError, NoFault, TooMany
from knownlate.late import late
from knownlate.least import cheapest, enough, is_against, least_sets
from knownlate.machines import Machine
from knownlate.watches import Watch, seeing
from tests import naive
from tests.cases import Case
from tests.samples import clock, deep_dict, deep_list, deep_tuple, fan, no_counts, no_faults, odd_objects, odd_rows
from tests.samples import own_list, tank
from tests.test_alike import right_lasso, right_runs
from tests.test_late import SMOKE, delayed

AMONG = ["bang", "go", "on", "smoke"]
COSTS = {"bang": 9, "smoke": 2, "on": 1}
LASSO = (((0, 2), ()), ((3,), ()))


def sets(words):
    """All sets of some of the words in the order of point [56]."""
    words = sorted(set(words))
    return [chosen for many in range(len(words) + 1) for chosen in itertools.combinations(words, many)]


def cost_of(chosen, costs):
    return sum(costs[each] for each in chosen)


def slow_enough(machine, names, words, within):
    """Point [55] for a machine of up to five states, which has at most 25 tuples BEHIND; by what is known."""
    numbers = [naive.late(machine, [seeing(list(words))], fault, 30) for fault in names]
    return all(number is not None and (within is None or number <= within) for number in numbers)


def slow_least(good):
    """The least ones of all sets that are enough."""
    return [each for each in good if not any(set(other) < set(each) for other in good)]


def right_paper(machine, words, fault, paper, within):
    """Whether the paper shows that the words are not enough, by the functions of runs."""
    try:
        if within is None:
            stems, loops = paper
            return right_lasso(machine, [seeing(list(words))], fault, stems, loops)
        return right_runs(machine, [seeing(list(words))], fault, within, paper)
    except (BadRun, ValueError, TypeError):
        return False


def right_against(machine, names, costs, cost, thing, within):
    """Point [58] for a list of tuples of three items."""
    for words, fault, paper in thing:
        if list(words) != sorted(set(words)) or not set(words) <= set(costs) or fault not in names:
            return False
        if not right_paper(machine, words, fault, paper, within):
            return False
    return all(any(set(chosen) <= set(words) for words, _, _ in thing)
               for chosen in sets(costs) if cost_of(chosen, costs) < cost)


def unseen_ring(size, more):
    """A machine with size * (2 * size + more) met tuples if nothing is seen: 5000 for 50 states and no more."""
    steps = [(at, "u", (at + 1) % size) for at in range(size)] + [(0, "bad", 1)]
    steps += [(0, "bad", size)] * min(more, 1)
    steps += [(size + at, "v", size + min(at + 1, more - 1)) for at in range(more)]
    return Machine(0, steps, {"bad": "hole"})


def branches(many):
    """A machine with so many branches behind the fault, each with two words of its own by turns."""
    first, second = "abcd"[:many], "abcdefgh"[many:2 * many]
    steps = [(0, "z", 0)] + [(0, "bad", 1 + at) for at in range(many)]
    for at in range(many):
        steps += [(1 + at, first[at], 11 + at), (11 + at, second[at], 1 + at)]
    return Machine(0, steps, {"bad": "hole"})


def two_rooms(fault_words):
    """A machine with the words a to d in one state and, behind x, the words e to h in another one."""
    steps = [(0, each, 0) for each in "abcd"] + [(0, "x", 1)] + [(1, each, 1) for each in "efgh"]
    return Machine(0, steps, {each: "hole" for each in fault_words})


def two_rings(one, other):
    """A machine with a ring of states behind the fault and another ring without it, each with one odd step.

    A run behind the fault is told when it comes to its odd step while the other run is at its own one.
    """
    steps = [(0, "bad", 1), (0, "fine", 40), (one, "turn", 1)]
    steps += [(at, "tick", at + 1) for at in range(1, one)]
    for at in range(other):
        steps.append((40 + at, "tick", 40 + (at + 1) % other))
        if at < other - 1:
            steps.append((40 + at, "turn", 41 + at))
    return Machine(0, steps, {"bad": "hole"})


def letters_of(letters):
    return list(letters)


def two_sizes():
    """A machine with few met tuples for the fault "little" and very many for the fault "big"."""
    steps = [(0, "bad", 1)] + [(at, "u", at % 60 + 1) for at in range(1, 61)] + [(5, "ill", 6), (0, "v", 0)]
    return Machine(0, steps, {"bad": "little", "ill": "big"})


class Enough(Case):
    def test_the_smoke(self):
        for words, expected in (((), None), (("smoke",), 1), (("bang",), 0), (("go", "on"), 1), (("on",), None)):
            number = late(SMOKE, [seeing(words)], "broken")
            for within in (None, 0, 1, 2, 100):
                good = number is not None and (within is None or number <= within)
                self.assertIs(enough(SMOKE, ["broken"], words, within=within), good)
            if words != ("go", "on"):
                self.assertEqual(number, expected)
        self.assertIs(enough(SMOKE, ["broken"], ["smoke"]), True)

    def test_bounds(self):
        for many in range(1, 15):
            made = delayed(many)
            for within in (0, many, many + 1, many + 2, 100):
                self.assertIs(enough(made, ["hole"], ["tick", "alarm"], within=within), within > many)
            self.assertIs(enough(made, ["hole"], ["tick", "alarm"]), True)
            self.assertIs(enough(made, ["hole"], ["tick"]), False)
            self.assertIs(enough(made, ["hole"], ["bad"], within=0), True)

    def test_a_long_chain(self):
        steps = [(0, "bad", 1), (0, "fine", 41)]
        steps += [(at, "u", at + 1) for at in range(1, 39)] + [(39, "alarm", 39), (41, "u", 41)]
        made = Machine(0, steps, {"bad": "hole"})
        for within in (0, 37, 38, 39, 40, 99, 100):
            self.assertIs(enough(made, ["hole"], ["alarm"], within=within), within >= 39)

    def test_the_bound_100(self):
        for sizes, number in (((4, 25), 100), ((25, 4), 100), ((3, 34), 102), ((11, 12), 132)):
            made = two_rings(*sizes)
            self.assertEqual(late(made, [seeing(["tick", "turn"])], "hole"), number)
            for within in (None, 0, 99, 100):
                good = within is None or number <= within
                self.assertIs(enough(made, ["hole"], ["tick", "turn"], within=within), good)
                self.assertEqual(least_sets(made, ["hole"], ["turn", "tick"], within=within),
                                 [("tick", "turn")] if good else [])
                found = cheapest(made, ["hole"], {"turn": 2, "tick": 3}, within=within)
                self.assertEqual(found and found[:2], (5, ("tick", "turn")) if good else None)
                if good:
                    self.assertIs(right_against(made, ["hole"], {"turn": 2, "tick": 3}, 5, found[2], within), True)

    def test_several_faults(self):
        made = Machine(0, [(0, "a", 0), (0, "b", 0), (0, "c", 0), (0, "d", 0)], {"a": "one", "b": "two", "c": "one"})
        self.assertIs(enough(made, ["one"], ["a", "c"]), True)
        self.assertIs(enough(made, ["one", "two"], ["a", "c"]), False)
        self.assertIs(enough(made, ("two", "one"), ("a", "b", "c")), True)
        self.assertIs(enough(made, ["two"], ["b"]), True)
        self.assertIs(enough(made, ["two", "two", "two"], ["b", "b", "b", "b"]), True)
        self.assertIs(enough(made, ["two", "one", "two"], ["b", "b"]), False)

    def test_a_fault_that_no_run_does(self):
        made = Machine(0, [(0, "a", 0), (1, "b", 0)], {"b": "far"})
        self.assertIs(enough(made, ["far"], [], within=0), True)
        self.assertEqual(least_sets(made, ["far"], ["a", "b"]), [()])
        self.assertEqual(cheapest(made, ["far"], {"a": 3, "b": 1}), (0, (), []))


class LeastSets(Case):
    def test_the_example(self):
        self.assertEqual(least_sets(SMOKE, ["broken"], AMONG), [("bang",), ("smoke",)])
        self.assertEqual(least_sets(SMOKE, ["broken"], AMONG, within=0), [("bang",)])

    def test_any_order_and_equal_words(self):
        for words in itertools.permutations(AMONG):
            self.assertEqual(least_sets(SMOKE, ("broken",), words), [("bang",), ("smoke",)])
        self.assertEqual(least_sets(SMOKE, ["broken"] * 3, AMONG[::-1] * 2), [("bang",), ("smoke",)])
        self.assertEqual(least_sets(SMOKE, ["broken"], ["smoke"] * 8), [("smoke",)])

    def test_no_set_is_enough(self):
        self.assertEqual(least_sets(SMOKE, ["broken"], []), [])
        self.assertEqual(least_sets(SMOKE, ["broken"], ["go"]), [])
        self.assertEqual(least_sets(SMOKE, ["broken"], ["smoke"], within=0), [])

    def test_the_empty_set_is_enough(self):
        made = Machine(0, [(0, "bad", 0)], {"bad": "hole"})
        self.assertEqual(late(made, [Watch()], "hole"), None)
        # Whoever sees nothing never knows, except of a fault that no run does.
        made = Machine(0, [(0, "a", 0), (1, "b", 0)], {"b": "far"})
        self.assertEqual(least_sets(made, ["far"], []), [()])
        self.assertEqual(least_sets(made, ["far"], ["b", "a"], within=0), [()])

    def test_words_that_are_enough_together(self):
        letters = "abcdefgh"
        made = fan(letters)
        made = Machine(0, made.steps, {"a": "one", "b": "one", "c": "two", "d": "two"})
        self.assertEqual(least_sets(made, ["one"], letters_of(letters)), [("a", "b")])
        self.assertEqual(least_sets(made, ["one", "two"], letters_of(letters)), [("a", "b", "c", "d")])

    def test_one_word_of_each_branch(self):
        # Behind the fault one branch does a and c by turns and the other one b and d.
        self.assertEqual(least_sets(branches(2), ["hole"], letters_of("abcd")),
                         [("a", "b"), ("a", "d"), ("b", "c"), ("c", "d")])
        self.assertEqual(least_sets(branches(2), ["hole"], letters_of("dcbaz") + ["bad"]),
                         [("bad",), ("a", "b"), ("a", "d"), ("b", "c"), ("c", "d")])
        self.assertEqual(least_sets(branches(2), ["hole"], letters_of("abcdz"), within=1), [("a", "b")])
        self.assertEqual(least_sets(branches(2), ["hole"], letters_of("abcd"), within=0), [])

    def test_eight_words(self):
        found = least_sets(branches(4), ["hole"], letters_of("hgfedcba"))
        self.assertEqual(found, sorted(tuple(sorted(each)) for each in itertools.product("ae", "bf", "cg", "dh")))
        self.assertEqual(least_sets(branches(4), ["hole"], letters_of("hgfdcba")),
                         [each for each in found if "e" not in each])
        self.assertEqual(least_sets(branches(4), ["hole"], letters_of("abcdefgh"), within=1), [("a", "b", "c", "d")])

    def test_shorter_sets_come_first(self):
        source = random.Random(31)
        shapes = set()
        for _ in range(150):
            made = naive.random_machine(source, 5, 12, "abcde")
            names = [source.choice(made.fault_names) for _ in range(source.choice((1, 1, 2, 3)))]
            among = source.sample(made.words, min(len(made.words), source.choice((2, 3, 4, 5))))
            among += among[:source.randrange(3)]
            for within in (None, source.choice((0, 1, 2, 100))):
                good = [each for each in sets(among) if slow_enough(made, names, each, within)]
                found = least_sets(made, names, among, within=within)
                self.assertEqual(found, slow_least(good))
                for each in sets(among):
                    self.assertIs(enough(made, names, each, within=within), each in good)
                shapes.add(tuple(len(each) for each in found))
        self.assertLessEqual({(), (0,), (1,), (2,)}, shapes)
        self.assertTrue([shape for shape in shapes if len(set(shape)) > 1], shapes)

    def test_a_new_list_each_time(self):
        names, among = ["broken"], list(AMONG)
        least_sets(SMOKE, names, among).clear()
        self.assertEqual(least_sets(SMOKE, names, among), [("bang",), ("smoke",)])
        self.assertEqual([names, among], [["broken"], AMONG])


class Cheapest(Case):
    def check(self, machine, names, costs, within=None):
        """The answer is the one of all sets, and what shows it is right; returns it."""
        good = [each for each in sets(costs) if slow_enough(machine, names, each, within)]
        found = cheapest(machine, names, costs, within=within)
        if not good:
            self.assertIsNone(found)
            return None
        self.assertEqual([found.__class__, len(found), found[2].__class__], [tuple, 3, list])
        least = min(cost_of(each, costs) for each in good)
        words = [each for each in good if cost_of(each, costs) == least][0]
        self.assertEqual(found[:2], (least, words))
        self.assertIs(right_against(machine, names, costs, least, found[2], within), True)
        self.assertIs(is_against(machine, names, costs, least, found[2], within=within), True)
        if least == 0:
            self.assertEqual(found[2], [])
        return found

    def test_the_example(self):
        found = self.check(SMOKE, ["broken"], COSTS)
        self.assertEqual(found[:2], (2, ("smoke",)))
        self.assertIs(is_against(SMOKE, ["broken"], COSTS, 2, [(("on",), "broken", LASSO)]), True)
        self.assertEqual(self.check(SMOKE, ["broken"], COSTS, within=0)[:2], (9, ("bang",)))

    def test_equal_costs(self):
        self.assertEqual(self.check(SMOKE, ["broken"], {"smoke": 5, "bang": 5, "on": 1})[:2], (5, ("bang",)))
        made = Machine(0, fan("abcdz").steps, {"a": "one", "b": "one"})
        self.assertEqual(self.check(made, ["one"], {"a": 1, "b": 2, "c": 1, "d": 1})[:2], (3, ("a", "b")))
        # A pair costs as much as a single word: the shorter set is the first one.
        steps = [(0, "bad", 1), (0, "bad", 2), (1, "a", 3), (2, "b", 3), (3, "z", 3), (0, "z", 0)]
        made = Machine(0, steps, {"bad": "hole"})
        self.assertEqual(self.check(made, ["hole"], {"a": 2, "b": 3, "bad": 5})[:2], (5, ("bad",)))
        self.assertEqual(self.check(made, ["hole"], {"a": 2, "b": 3, "bad": 6})[:2], (5, ("a", "b")))
        self.assertEqual(self.check(made, ["hole"], {"a": 2, "b": 3, "bad": 4})[:2], (4, ("bad",)))

    def test_no_set_is_enough(self):
        self.assertIsNone(self.check(SMOKE, ["broken"], {}))
        self.assertIsNone(self.check(SMOKE, ["broken"], {"go": 1, "on": 1}))
        self.assertIsNone(self.check(SMOKE, ["broken"], {"smoke": 1, "on": 1}, within=0))

    def test_a_cost_of_0(self):
        made = Machine(0, [(0, "a", 0), (1, "b", 0)], {"b": "far"})
        for costs in ({}, {"a": 1}, {"a": 1000000, "b": 1}):
            for within in (None, 0, 100):
                self.assertEqual(self.check(made, ["far"], costs, within), (0, (), []))

    def test_great_costs(self):
        self.assertEqual(self.check(SMOKE, ["broken"], {"smoke": 1000000, "bang": 1000000})[:2], (1000000, ("bang",)))
        letters = "abcdefgh"
        made, costs = two_rooms(letters), {each: 1000000 for each in letters}
        found = cheapest(made, ["hole"], costs)
        self.assertEqual(found[:2], (8000000, tuple(letters)))
        self.assertIs(right_against(made, ["hole"], costs, 8000000, found[2], None), True)
        self.assertIs(is_against(made, ["hole"], costs, 8000000, found[2]), True)
        self.assertIs(is_against(made, ["hole"], costs, 7000001, found[2][1:]), False)

    def test_many_machines(self):
        source = random.Random(32)
        seen = {}
        for _ in range(150):
            made = naive.random_machine(source, 5, 12, "abcde")
            names = [source.choice(made.fault_names) for _ in range(source.choice((1, 1, 2, 3)))]
            words = source.sample(made.words, min(len(made.words), source.choice((2, 3, 4, 5))))
            costs = {each: source.choice((1, 1, 2, 3, 10, 1000000)) for each in words}
            for within in (None, source.choice((0, 1, 2, 3, 100))):
                found = self.check(made, names, costs, within)
                size = None if found is None else len(found[1])
                seen[size] = seen.get(size, 0) + 1
        self.assertLessEqual({None, 0, 1, 2, 3}, set(seen), seen)

    def test_the_order_of_the_costs_has_no_effect(self):
        for items in itertools.permutations({**COSTS, "go": 2}.items()):
            self.assertEqual(cheapest(SMOKE, ["broken"], dict(items)), cheapest(SMOKE, ["broken"], {**COSTS, "go": 2}))

    def test_a_new_list_each_time(self):
        costs = dict(COSTS)
        cheapest(SMOKE, ["broken"], costs)[2].clear()
        self.assertIs(is_against(SMOKE, ["broken"], costs, 2, cheapest(SMOKE, ["broken"], costs)[2]), True)
        self.assertEqual(costs, COSTS)


class Judge(Case):
    def judge(self, thing, cost=2, names=("broken",), costs=None, within=None):
        return is_against(SMOKE, names, COSTS if costs is None else costs, cost, thing, within=within)

    def test_right_papers(self):
        paper = (("on",), "broken", LASSO)
        for thing in ([paper], [paper, paper], [((), "broken", LASSO), paper], [paper, ((), "broken", LASSO)]):
            self.assertIs(self.judge(thing), True)
            self.assertIs(self.judge(thing, 1), True)
            self.assertIs(self.judge(thing, 0), True)
        self.assertIs(self.judge([], 0), True)
        self.assertIs(self.judge([((), "broken", LASSO)], 1), True)
        self.assertIs(self.judge([((), "broken", LASSO)], 2), False)
        self.assertIs(self.judge([], 1), False)
        self.assertIs(self.judge([paper], 3), False)
        self.assertIs(self.judge([paper], 8000000), False)
        self.assertIs(self.judge([paper], 8000000, costs={"on": 1}), True)
        self.assertIs(self.judge([paper], 8000000, costs={"on": 8, "go": 8}), False)
        self.assertIs(self.judge([((), "broken", LASSO)], 8000000, costs={}), True)
        self.assertIs(self.judge([], 8000000, costs={}), False)
        self.assertIs(self.judge([], 0, costs={}), True)

    def test_papers_with_a_bound(self):
        runs = ((0, 2, 3), (1,))
        for within in (0, 1):
            self.assertIs(self.judge([(("on", ), "broken", runs)], within=within), True)
            self.assertIs(self.judge([(("on", "smoke"), "broken", runs)], within=within), False)
            self.assertIs(self.judge([(("on",), "broken", LASSO)], within=within), False)
            self.assertIs(self.judge([(("on",), "broken", runs)], 9, within=within), False)
        self.assertIs(self.judge([(("on",), "broken", runs)], within=2), False)
        self.assertIs(self.judge([(("on",), "broken", runs)], within=100), False)
        self.assertIs(self.judge([(("on",), "broken", runs)]), False)
        self.assertIs(self.judge([(("on", "smoke"), "broken", ((0, 2), (1,)))], 9, within=0), True)
        self.assertIs(self.judge([(("on", "smoke"), "broken", ((0, 2), (1,)))], 9, within=1), False)
        self.assertIs(self.judge([(("on",), "broken", ((0, 2) + (3,) * 100, ()))], within=100), True)
        self.assertIs(self.judge([(("on",), "broken", ((0, 2) + (3,) * 99, ()))], within=100), False)

    def test_wrong_papers(self):
        words, fault, paper = ("on",), "broken", LASSO
        for thing in ([(words, fault)], [(words, fault, paper, ())], [(words,)], [()], [words], (), None, "broken",
                      ((words, fault, paper),), {0: (words, fault, paper)}, [[words, fault, paper]],
                      [(list(words), fault, paper)], [("on", fault, paper)], [(words, "hole", paper)],
                      [(words, "bang", paper)], [(words, ["broken"], paper)], [(words, None, paper)],
                      [(words, fault, list(paper))], [(words, fault, None)], [(words, fault, ())],
                      [(("on", "on"), fault, paper)], [(("on", "go"), fault, paper)], [(("go", "on"), fault, paper)],
                      [(("on", "smoke"), fault, paper)], [(("smoke",), fault, paper)], [(("on", None), fault, paper)],
                      [(("on", "On"), fault, paper)], [(words, fault, (((0, 2), (1,)), ((3,), (4,))))],
                      [(words, fault, paper), None], [(words, fault, paper), (words, fault, None)],
                      [(words, fault, paper), (("go",), fault, paper)], [(fault, words, paper)],
                      [(words, fault, (((0, 2), ()), ((), ())))], [(words, fault, (((0,), ()), ((2,), ())))]):
            self.assertIs(self.judge(thing), False, thing)
        # A paper that is right for a word that has no cost.
        two = [(words, fault, paper), (("go",), fault, (((0, 2), (1,)), ((3,), ())))]
        self.assertIs(self.judge(two, costs={**COSTS, "go": 1}), True)
        self.assertIs(self.judge(two), False)

    def test_faults_of_the_names_alone(self):
        made = Machine(0, [(0, "a", 0), (0, "b", 0), (0, "c", 0)], {"a": "one", "b": "two"})
        loops = (((0,), ()), ((0,), ()))
        for names, expected in ((["one"], True), (["two"], False), (["two", "one"], True)):
            self.assertIs(is_against(made, names, {"c": 3}, 3, [((), "one", loops)]), expected)
            self.assertIs(is_against(made, names, {"c": 3}, 4, [(("c",), "one", loops)]), expected)
            self.assertIs(is_against(made, names, {"a": 3}, 4, [(("a",), "one", loops)]), False)

    def test_any_object(self):
        for value in odd_objects() + odd_rows() + [None, 0, tank(), own_list(), Watch(), deep_list(), deep_tuple(),
                                                   deep_dict()]:
            good = value.__class__ is tuple and len(value) == 0
            self.assertIs(self.judge(value), False)
            self.assertIs(self.judge(value, 0), value.__class__ is list and len(value) == 0)
            self.assertIs(self.judge([value]), False)
            self.assertIs(self.judge([(value, "broken", LASSO)], 1), good)
            self.assertIs(self.judge([((value,), "broken", LASSO)]), False)
            self.assertIs(self.judge([(("on",), value, LASSO)]), False)
            self.assertIs(self.judge([(("on",), "broken", value)]), False)
            self.assertIs(self.judge([(("on",), "broken", value)], within=0), False)
            self.assertIs(self.judge([(("on",), "broken", (LASSO[0], value))]), False)

    def test_many_papers(self):
        source = random.Random(33)
        seen = {True: 0, False: 0}
        for _ in range(150):
            made = naive.random_machine(source, 4, 9, "abcde")
            names = [source.choice(made.fault_names) for _ in range(source.choice((1, 2)))]
            words = source.sample(made.words, min(len(made.words), 4))
            costs = {each: source.choice((1, 2, 3)) for each in words}
            within = source.choice((None, None, 0, 1, 2))
            found = cheapest(made, names, costs, within=within)
            if found is None:
                continue
            for _ in range(6):
                thing = [list(item) for item in found[2]]
                source.shuffle(thing)
                for item in thing:
                    if source.random() < 0.2:
                        item[0] = tuple(sorted(source.sample(words, source.randrange(len(words) + 1))))
                    if source.random() < 0.1:
                        item[1] = source.choice(made.fault_names)
                    if source.random() < 0.1:
                        item[2] = source.choice(found[2])[2]
                thing = [tuple(item) for item in thing if source.random() < 0.9]
                cost = max(0, found[0] + source.choice((-2, -1, 0, 0, 0, 1)))
                expected = right_against(made, names, costs, cost, thing, within)
                self.assertIs(is_against(made, names, costs, cost, thing, within=within), expected)
                seen[expected] += 1
        self.assertGreater(min(seen.values()), 60)


class Errors(Case):
    WORKS = [
        lambda machine, names, **more: enough(machine, names, 5, **more),
        lambda machine, names, **more: least_sets(machine, names, 5, **more),
        lambda machine, names, **more: cheapest(machine, names, 5, **more),
        lambda machine, names, **more: is_against(machine, names, 5, 5, 5, **more),
    ]

    def test_names(self):
        for work in self.WORKS:
            for value in odd_objects() + odd_rows() + [None, 0, "hole", {"hole": 1}, [], (), ["hole"] * 4, [5] * 4]:
                if isinstance(value, (list, tuple)) and 1 <= len(value) <= 3:
                    self.refuse(NoFault, "name", value[0], work, tank(), value, within=-1)
                else:
                    self.refuse(NoFault, "name", value, work, tank(), value, within=-1)
            for value in no_faults():
                self.refuse(NoFault, "name", value, work, tank(), [value], within=-1)
                self.refuse(NoFault, "name", value, work, tank(), ("hole", value, 5), within=-1)
                self.refuse(NoFault, "name", value, work, tank(), ["hole", "hole", value], within=-1)
            self.refuse(NoFault, "name", "hole", work, clock(), ["hole"])

    def test_words(self):
        for work in (enough, least_sets):
            for value in odd_objects() + [None, 0, "fill", {"fill": 1}, deep_dict(), tank(), ["fill"] * 9, ("a",) * 9]:
                self.refuse(BadWord, "value", value, work, tank(), ["hole"], value)
                self.refuse(BadWord, "value", value, work, tank(), ["hole"], value, within=-1)
            for value in odd_objects() + odd_rows() + [None, 0, "other", "hole", tank()]:
                self.refuse(BadWord, "value", value, work, tank(), ["hole"], [value], within=-1)
                self.refuse(BadWord, "value", value, work, tank(), ("hole",), ("fill", "leak", value, 5), within=-1)
            work(tank(), ["hole"], ["fill", "leak"] * 4)
            work(tank(), ["hole"], ())

    def test_costs(self):
        words = {each: 1 for each in "abcdefgh"}
        made = two_rooms("h")
        for work in (cheapest, lambda *args, **more: is_against(*args, None, 5, **more)):
            for value in odd_objects() + [None, 0, "fill", ["fill"], deep_list(), tank(), {**words, "x": 1},
                                          {at: at for at in range(9)}]:
                self.refuse(BadCosts, "word", None, work, made, ["hole"], value, within=-1)
            for value in (None, 0, True, "", "A", "other", "hole", ("a",), b"a", 10 ** 6000, frozenset(["a"]), len,
                          "abcdefghijklm", "\ud800"):
                self.refuse(BadCosts, "word", value, work, made, ["hole"], {"a": 1, value: 1, 5: 5}, within=-1)
            for value in no_counts(1000000) + [0]:
                self.refuse(BadCosts, "word", "b", work, made, ["hole"], {"a": 1, "b": value, "c": 0}, within=-1)
        # The first wrong key is the first one in the order of the dict.
        self.refuse(BadCosts, "word", "c", cheapest, made, ["hole"], {"c": 0, "b": 0})
        self.refuse(BadCosts, "word", "b", cheapest, made, ["hole"], {"b": 0, "q": 1})
        self.refuse(BadCosts, "word", "q", cheapest, made, ["hole"], {"q": 1, "b": 0})
        self.assertIsNone(cheapest(made, ["hole"], {"a": 1000000, "b": 1}))
        self.assertEqual(cheapest(made, ["hole"], words)[:2], (1, ("h",)))

    def test_cost(self):
        for value in no_counts(8000000):
            self.refuse(BadCount, "value", value, is_against, tank(), ["hole"], {"fill": 1}, value, 5)
            self.refuse(BadCount, "value", value, is_against, tank(), ["hole"], {"fill": 1}, value, 5, within=-1)
        for value in (0, 8000000):
            self.assertIs(is_against(tank(), ["hole"], {"fill": 1}, value, 5), False)

    def test_within(self):
        made = unseen_ring(50, 1)
        for value in no_counts(100):
            if value is None:
                continue
            for names, words in ((["hole"], ["u"]), (["hole"], [])):
                self.refuse(BadCount, "value", value, enough, made, names, words, within=value)
                self.refuse(BadCount, "value", value, least_sets, made, names, words, within=value)
                costs = {each: 1 for each in words}
                self.refuse(BadCount, "value", value, cheapest, made, names, costs, within=value)
                self.refuse(BadCount, "value", value, is_against, made, names, costs, 0, 5, within=value)

    def test_within_is_passed_by_name(self):
        for work, args in ((enough, (["fill"],)), (least_sets, (["fill"],)), (cheapest, ({"fill": 1},)),
                           (is_against, ({"fill": 1}, 0, []))):
            with self.assertRaises(TypeError):
                work(tank(), ["hole"], *args, 5)
            work(tank(), ["hole"], *args, within=5)

    def test_nothing_has_changed(self):
        made, names, words, costs = tank(), ["hole"], ["fill", "nope"], {"fill": 0}
        for work, args in ((enough, (words,)), (least_sets, (words,)), (cheapest, (costs,)),
                           (is_against, (costs, 0, []))):
            with self.assertRaises(KnowError):
                work(made, names, *args)
        self.assertEqual([made, names, words, costs], [tank(), ["hole"], ["fill", "nope"], {"fill": 0}])


class Limits(Case):
    def test_5000_tuples(self):
        made = unseen_ring(50, 0)
        self.assertEqual([len(each) for each in naive.met(made, [Watch()], "hole")], [2500, 2500])
        self.assertIs(enough(made, ["hole"], []), False)
        self.assertIs(enough(made, ["hole"], ["bad"], within=0), True)
        self.assertEqual(least_sets(made, ["hole"], ["bad", "u"]), [("bad",)])
        self.assertEqual(cheapest(made, ["hole"], {"bad": 5, "u": 1}, within=0)[:2], (5, ("bad",)))

    def test_more_tuples(self):
        made = unseen_ring(50, 1)
        self.assertEqual([len(each) for each in naive.met(made, [Watch()], "hole")], [2500, 2550])
        self.refuse(TooMany, "limit", 5000, enough, made, ["hole"], [])
        self.refuse(TooMany, "limit", 5000, enough, made, ["hole"], ["v"], within=0)
        self.assertIs(enough(made, ["hole"], ["bad"], within=0), True)
        for words in ([], ["bad"], ["bad", "u", "v"]):
            for within in (None, 0, 100):
                self.refuse(TooMany, "limit", 5000, least_sets, made, ["hole"], words, within=within)
                self.refuse(TooMany, "limit", 5000, cheapest, made, ["hole"], {each: 1 for each in words},
                            within=within)
        paper = (((50, 51), ()), ((52,), ()))
        self.assertEqual(made.steps[51:], [(0, "bad", 50), (50, "v", 50)])
        self.assertIs(is_against(made, ["hole"], {}, 1, [((), "hole", paper)]), False)
        paper = (((51, 52), ()), ((52,), ()))
        self.assertIs(is_against(made, ["hole"], {}, 1, [((), "hole", paper)]), True)
        self.assertIs(is_against(made, ["hole"], {}, 1, [((), "hole", ((51, 52), ()))], within=1), True)
        self.assertIs(is_against(made, ["hole"], {"v": 1}, 1, []), False)

    def test_any_of_the_names(self):
        made = two_sizes()
        self.assertIsNone(late(made, [Watch()], "little"))
        self.refuse(TooMany, "limit", 5000, late, made, [Watch()], "big")
        self.assertIs(enough(made, ["little"], []), False)
        self.assertEqual(least_sets(made, ["little"], ["bad", "v"]), [("bad",)])
        for names in (["little", "big"], ["big", "little"], ("little", "little", "big")):
            # For the fault "little" alone the answer would be False.
            self.refuse(TooMany, "limit", 5000, enough, made, names, [])
            self.refuse(TooMany, "limit", 5000, least_sets, made, names, ["bad"])
            self.refuse(TooMany, "limit", 5000, cheapest, made, names, {"u": 1})
            self.assertIs(is_against(made, names, {"u": 1}, 1, []), False)


if __name__ == "__main__":
    unittest.main()
