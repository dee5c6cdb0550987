"""What points [3], [4], [6], [7] and [35] say of the whole program, and the names and arguments of the interface."""

import copy
import importlib
import inspect
import pathlib
import unittest

from knownlate import asks, estimates, finer, foretold, late, least, losses, machines, runs, texts, values, watches
from knownlate import errors
from knownlate.post import Post, Trial
from knownlate.watches import Watch, all_seen, seeing
from tests.cases import Case
from tests.samples import deep_dict, deep_list, deep_tuple, odd_objects, odd_rows, own_list, tank
from tests.test_errors import ATTRIBUTES
from tests.test_late import SMOKE, many_tuples
from tests.test_least import unseen_ring

Machine = machines.Machine
ROWS = [(3, ("broken",)), (2, ()), (1, ())]
PROBES = {"wet": [2, 3], "dry": [2]}
TREE = ("wet", ("dry", (), ()), ())
COSTS = {"bang": 9, "smoke": 2, "on": 1}
LASSO = (((0, 2), ()), ((3,), ()))
SEEN = seeing(["fill", "drip", "alarm"])

# Each function with right arguments; those called machine, for which nothing is promised, come first.
CALLS = [
    (runs.end_of, [tank(), (1, 3)]), (runs.faults_in, [tank(), (1, 3)]), (runs.sights_of, [tank(), SEEN, (1, 3)]),
    (runs.steps_behind, [tank(), (1, 3), "hole"]), (runs.alike, [tank(), SEEN, (1, 3), (0,)]),
    (runs.shortest_to, [tank(), 3]), (lambda *args: list(runs.rows_of(*args)), [tank(), SEEN, 2]),
    (estimates.after, [tank(), SEEN, ("fill",)]), (estimates.known, [tank(), SEEN, ("fill",)]),
    (estimates.telling, [tank(), SEEN, "hole"]), (estimates.veil, [tank(), seeing(["fill"]), "hole"]),
    (late.late, [tank(), [SEEN], "hole"]), (late.ranks, [tank(), [SEEN], "hole"]),
    (late.alike_runs, [tank(), [SEEN], "hole", 1]), (late.endless, [tank(), [seeing(["fill"])], "hole"]),
    (losses.with_losses, [tank(), SEEN, 1]),
    (foretold.avoiding, [SMOKE, "broken"]), (foretold.ahead, [SMOKE, [seeing(["go"])], "broken"]),
    (foretold.untold, [SMOKE, [seeing(["go"])], "broken", 0]),
    (finer.finer, [tank(), SEEN, Watch()]), (finer.unlike, [tank(), Watch(), SEEN]),
    (finer.same_sight, [tank(), Watch(), SEEN]),
    (least.enough, [SMOKE, ["broken"], ["bang"]]), (least.least_sets, [SMOKE, ["broken"], ["bang", "on", "smoke"]]),
    (least.cheapest, [SMOKE, ["broken"], COSTS]),
    (lambda machine, names, words, within: least.enough(machine, names, words, within=within),
     [SMOKE, ["broken"], ["bang"], 5]),
    (lambda machine, names, words, within: least.least_sets(machine, names, words, within=within),
     [SMOKE, ["broken"], ["bang"], 5]),
    (lambda machine, names, costs, within: least.cheapest(machine, names, costs, within=within),
     [SMOKE, ["broken"], COSTS, 5]),
    (lambda machine, order: machine.renumbered(order), [tank(), {0: 5, 1: 6, 2: 7, 3: 8}]),
    (lambda machine, other: machine.beside(other), [tank(), Machine(7, [(7, "tick", 7)])]),
]
# The same, but each argument may be any object.
FREE_CALLS = [
    (Machine, [0, [(0, "a", 0)], {"a": "hole"}]), (Watch, [{"a": "x"}]), (seeing, [["a", "b"]]),
    (lambda word: SEEN[word], ["fill"]), (lambda words: SEEN - words, [["fill"]]),
    (lambda other: SEEN | other, [{"a": "x"}]), (lambda other: SEEN & other, [Watch({"a": "x"})]),
    (lambda other: SEEN.within(other), [Watch()]),
    (asks.needed, [ROWS, PROBES]), (asks.tree, [ROWS, PROBES]), (asks.twins, [ROWS, PROBES]),
    (asks.answers, [ROWS, PROBES, 1]), (texts.read_machine, ["start 0\n0 hum 0"]),
    (lambda word: Post(tank())[word], ["fill"]), (lambda watch: Post(tank()).follow(watch), [SEEN]),
    (lambda fault: Post(tank()).late(fault), ["hole"]),
    (lambda changes, fault: Post(tank()).tried(changes, fault), [[("leak", "x"), ("leak", None)], "hole"]),
]
# Each judge with what stands ahead of its thing, what stands behind it, and right things.
JUDGES = [
    (estimates.is_veil, [tank(), seeing(["fill"]), "hole"], {}, [[((2,), (0,)), ((2, 3), (0, 1))]]),
    (late.is_ranks, [tank(), [SEEN], "hole", 2], {}, [([(0, 0), (1, 1)], {(2, 0): 1, (3, 1): 0})]),
    (late.is_alike, [tank(), [SEEN], "hole", 1], {}, [((1, 3), (0,))]),
    (late.is_endless, [tank(), [seeing(["fill"])], "hole"], {}, [(((1, 3), (0,)), ((4,), ()))]),
    (foretold.is_untold, [SMOKE, [seeing(["go"])], "broken", 0], {}, [((0,), (), (((1,), (), (4,)),))]),
    (foretold.is_untold, [SMOKE, (Watch(), Watch()), "broken", 1], {},
     [((), (0,), (((1,), (4,), (4,)), ((), (1,), (4, 4))))]),
    (finer.is_unlike, [SMOKE, seeing(["go"]), seeing(["go", "on"])], {}, [((1, 4), (1,))]),
    (least.is_against, [SMOKE, ["broken"], COSTS, 2], {}, [[(("on",), "broken", LASSO), ((), "broken", LASSO)]]),
    (least.is_against, [SMOKE, ["broken"], COSTS, 2], {"within": 1}, [[(("on",), "broken", ((0, 2, 3), (1,)))]]),
    (asks.is_tree, [ROWS, PROBES, 5], {}, [TREE, ("wet", TREE, ())]),
    (asks.is_answers, [ROWS, PROBES, 1], {}, [
        [(((1, ()), (2, ()), (3, ("broken",))), 2), (((2, ()), (3, ("broken",))), 1),
         (((1, ()), (3, ("broken",))), 1)]]),
    (values.is_name, [], {}, ["fill"]),
    (values.is_state, [], {}, [0, 99]),
]
ARGUMENTS = {
    values: {"is_name": "value", "is_state": "value"},
    watches: {"all_seen": "machine", "seeing": "words"},
    runs: {"end_of": "machine run", "faults_in": "machine run", "sights_of": "machine watch run",
           "steps_behind": "machine run fault", "alike": "machine watch one other", "rows_of": "machine watch many",
           "shortest_to": "machine state"},
    estimates: {"after": "machine watch sights", "known": "machine watch sights", "telling": "machine watch fault",
                "veil": "machine watch fault", "is_veil": "machine watch fault thing"},
    late: {"late": "machine watches fault", "ranks": "machine watches fault",
           "is_ranks": "machine watches fault most thing", "alike_runs": "machine watches fault many",
           "is_alike": "machine watches fault many thing", "endless": "machine watches fault",
           "is_endless": "machine watches fault thing"},
    losses: {"with_losses": "machine watch most"},
    foretold: {"avoiding": "machine fault", "ahead": "machine watches fault", "untold": "machine watches fault many",
               "is_untold": "machine watches fault many thing"},
    finer: {"finer": "machine one other", "unlike": "machine one other", "is_unlike": "machine one other thing",
            "same_sight": "machine one other"},
    least: {"enough": "machine names words within", "least_sets": "machine names among within",
            "cheapest": "machine names costs within", "is_against": "machine names costs cost thing within"},
    asks: {"needed": "rows probes", "tree": "rows probes", "is_tree": "rows probes most thing",
           "answers": "rows probes many", "is_answers": "rows probes many thing", "twins": "rows probes"},
    texts: {"machine_text": "machine", "read_machine": "text"},
}
METHODS = {
    Machine: {"__init__": "start steps faults", "beside": "other", "renumbered": "order"},
    Watch: {"__init__": "sights", "copy": "", "within": "other"},
    Post: {"__init__": "machine", "follow": "watch", "late": "fault", "undo": "", "trial": "", "rehearse": "work",
           "tried": "changes fault"},
    Trial: {"__init__": "post"},
}


def any_objects():
    return odd_objects() + odd_rows() + [
        None, 0, 1, 5, 99, "fill", "hole", "broken", "leak", tank(), SMOKE, Watch(), SEEN, Post(tank()), Post,
        Post(tank()).trial(), errors.BadWord(5), own_list(), deep_list(), deep_tuple(), deep_dict(), (0,), (1, 3),
        [(0, "a", 0)], [SEEN], (SEEN, None), [deep_tuple()], (deep_dict(),), ((),), ((), ()), ([], {}), {"fill": 1},
        {"wet": [1]}, {(0, 0): 0}, ["broken"], [("fill", "up")], [((), ())], Machine, inspect, copy]


def replaced(thing, value):
    """The thing with the value in the place of each of its parts, one after the other, however deep."""
    yield value
    if isinstance(thing, (list, tuple)):
        for at, part in enumerate(thing):
            for other in replaced(part, value):
                yield thing.__class__(list(thing[:at]) + [other] + list(thing[at + 1:]))
    elif isinstance(thing, dict):
        for key in thing:
            for other in replaced(thing[key], value):
                yield {**thing, key: other}


def left_out_or_twice(thing):
    """The thing with each of its parts left out or twice, however deep, or as a row of the other kind."""
    if isinstance(thing, (list, tuple)):
        yield list(thing) if isinstance(thing, tuple) else tuple(thing)
        for at, part in enumerate(thing):
            yield thing[:at] + thing[at + 1:]
            yield thing[:at + 1] + thing[at:]
            for other in left_out_or_twice(part):
                yield thing.__class__(list(thing[:at]) + [other] + list(thing[at + 1:]))
    elif isinstance(thing, dict):
        for key in thing:
            yield {each: thing[each] for each in thing if each != key}
            for other in left_out_or_twice(thing[key]):
                yield {**thing, key: other}


class Interface(Case):
    def test_functions_and_their_arguments(self):
        for module, functions in ARGUMENTS.items():
            for name, arguments in functions.items():
                work = getattr(module, name)
                parameters = inspect.signature(work).parameters
                self.assertEqual([work.__module__, list(parameters)], [module.__name__, arguments.split()])
                for each in parameters.values():
                    by_name = each.name == "within"
                    self.assertIs(each.kind, each.KEYWORD_ONLY if by_name else each.POSITIONAL_OR_KEYWORD)
                    self.assertIs(each.default, None if by_name else each.empty)

    def test_classes_and_their_methods(self):
        for made, methods in METHODS.items():
            for name, arguments in methods.items():
                self.assertEqual(list(inspect.signature(vars(made)[name]).parameters), ["self"] + arguments.split())
        for made, names in ((Machine, "start steps words fault_names faults states"), (Watch, "words sights"),
                            (Post, "watch")):
            for name in names.split():
                self.assertIsInstance(vars(made)[name], property)
        for name in ("__getitem__", "__setitem__", "__iter__"):
            self.assertIn(name, vars(Post))
        for name in ("__enter__", "__exit__"):
            self.assertIn(name, vars(Trial))
        self.assertIsNotNone(vars(Post)["watch"].fset)


class Errors(Case):
    def test_all_classes_of_errors_of_the_package(self):
        folder = pathlib.Path(errors.__file__).parent
        found = {}
        for path in folder.glob("*.py"):
            module = importlib.import_module("knownlate." + path.stem)
            for name, value in vars(module).items():
                if isinstance(value, type) and issubclass(value, BaseException):
                    found[name] = value
        self.assertEqual(sorted(found), sorted(list(ATTRIBUTES) + ["KnowError"]))
        self.assertEqual(errors.KnowError.__bases__, (ValueError,))
        for name, value in found.items():
            self.assertEqual(value.__module__, "knownlate.errors")
            if name != "KnowError":
                self.assertEqual(value.__bases__, (errors.KnowError,))

    def test_each_class_is_raised_with_its_attributes(self):
        row, value = [SEEN], [[]]
        post = Post(tank())
        for work, name, expected in (
                (lambda: Machine(-1, []), "BadState", [-1]), (lambda: Machine(0, []), "BadSteps", [-1]),
                (lambda: Machine(0, [(0, "a", 0)], {"b": "c"}), "BadFaults", ["b"]),
                (lambda: Machine(0, [(0, "a", 1)]), "NotLive", [1]), (lambda: SEEN["A"], "BadWord", ["A"]),
                (lambda: finer.finer(tank(), SEEN, value), "BadWatch", [value]),
                (lambda: foretold.ahead(tank(), [SEEN, 5], "hole"), "BadWatches", [1]),
                (lambda: runs.end_of(tank(), (0, 0)), "BadRun", [1]),
                (lambda: estimates.after(tank(), SEEN, ("alarm",)), "BadSights", [0]),
                (lambda: least.enough(tank(), [value], []), "NoFault", [value]),
                (lambda: least.is_against(tank(), ["hole"], {}, value, []), "BadCount", [value]),
                (lambda: least.cheapest(tank(), ["hole"], {"fill": 0}), "BadCosts", ["fill"]),
                (lambda: asks.needed([(1, ()), value], {}), "BadRows", [1]),
                (lambda: asks.needed([(1, ())], {"wet": 5}), "BadProbes", ["wet"]),
                (lambda: late.late(*many_tuples(1), "hole"), "TooMany", [5000]),
                (lambda: texts.read_machine("start 0\n0 a 0\n"), "NotText", [3, ""]),
                (lambda: texts.read_machine("start 0\n0 a 1"), "NotText", [0, "NotLive"]),
                (lambda: post.undo(), "NothingDone", []), (lambda: late.late(tank(), row, "b"), "NoFault", ["b"])):
            with self.assertRaises(errors.KnowError) as caught:
                work()
            self.assertIs(caught.exception.__class__, getattr(errors, name))
            self.assertEqual(list(vars(caught.exception)), list(ATTRIBUTES[name]))
            self.assertEqual([getattr(caught.exception, each) for each in ATTRIBUTES[name]], expected)

    def try_call(self, work, args, **more):
        """Calls; an error has to be one of the program and to hold its attributes."""
        try:
            return work(*args, **more)
        except errors.KnowError as error:
            self.assertIn(error.__class__.__name__, ATTRIBUTES)
            self.assertEqual(list(vars(error)), list(ATTRIBUTES[error.__class__.__name__]))
            return error

    def test_any_object_as_any_argument(self):
        objects = any_objects()
        for calls, first in ((CALLS, 1), (FREE_CALLS, 0)):
            for work, args in calls:
                before = copy.deepcopy(args)
                for at in range(first, len(args)):
                    found = [self.try_call(work, args[:at] + [value] + args[at + 1:]) for value in objects]
                    wrong = [each for each in found if isinstance(each, errors.KnowError)]
                    self.assertGreater(len(wrong), 60, (work, at))
                self.assertEqual(args, before)

    def test_any_object_within_any_argument(self):
        # In each place of each argument, however deep.
        objects = [None, True, -1, "A", 1.5, [], own_list(), deep_list(), deep_tuple(), deep_dict(), SEEN]
        for calls, first in ((CALLS, 1), (FREE_CALLS, 0)):
            for work, args in calls:
                for at in range(first, len(args)):
                    for value in objects:
                        for other in replaced(args[at], value):
                            self.try_call(work, args[:at] + [other] + args[at + 1:])

    def test_several_wrong_arguments_raise_the_same_as_the_first_one(self):
        # Point [7] and the later ones: an argument that is wrong hides what is wrong with later ones.
        for work, args in (
                (estimates.telling, [tank(), SEEN, "hole"]), (late.late, [tank(), [SEEN], "hole"]),
                (late.alike_runs, [tank(), [SEEN], "hole", 1]), (losses.with_losses, [tank(), SEEN, 1]),
                (foretold.untold, [tank(), [SEEN], "hole", 1]), (finer.unlike, [tank(), SEEN, SEEN]),
                (least.enough, [tank(), ["hole"], ["fill"]]), (least.cheapest, [tank(), ["hole"], {"fill": 1}]),
                (asks.answers, [ROWS, PROBES, 1])):
            first = 0 if work is asks.answers else 1
            for at in range(first, len(args)):
                one = self.try_call(work, args[:at] + [5.5] + args[at + 1:])
                other = self.try_call(work, args[:at] + [5.5] * (len(args) - at))
                self.assertIsInstance(one, errors.KnowError)
                self.assertEqual([one.__class__, vars(one)], [other.__class__, vars(other)])


class Calls(Case):
    def test_equal_arguments_have_equal_answers(self):
        for work, args in CALLS + FREE_CALLS:
            before = copy.deepcopy(args)
            one, other = work(*args), work(*copy.deepcopy(args))
            self.assertEqual(one, other)
            self.assertEqual(args, before)
            self.assertEqual(one.__class__, other.__class__)

    def test_what_is_returned_may_be_changed(self):
        def emptied(value):
            if isinstance(value, (list, dict)):
                for part in list(value.values()) if isinstance(value, dict) else list(value):
                    emptied(part)
                value.clear()
            elif isinstance(value, Watch):
                for each in value.words:
                    value[each] = None
            elif isinstance(value, tuple):
                for part in value:
                    emptied(part)
            elif isinstance(value, Machine):
                emptied([value.steps, value.words, value.faults, value.fault_names, value.states])

        for work, args in CALLS + FREE_CALLS:
            if work is Machine:
                continue
            kept = copy.deepcopy(args)
            expected = work(*kept)
            emptied(work(*args))
            self.assertEqual(work(*args), expected)
            self.assertEqual(args, kept)


class Judges(Case):
    def test_right_things(self):
        for work, args, more, things in JUDGES:
            for thing in things:
                kept = copy.deepcopy([args, more, thing])
                self.assertIs(work(*args, thing, **more), True)
                self.assertEqual([args, more, thing], kept)

    def test_any_object(self):
        objects = any_objects()
        for work, args, more, things in JUDGES:
            found = [work(*args, value, **more) for value in objects]
            self.assertTrue(all(each is True or each is False for each in found))
            if work is not values.is_name and work is not values.is_state:
                self.assertEqual(found.count(True), 0)

    def test_any_object_within_right_things(self):
        objects = any_objects()
        for work, args, more, things in JUDGES:
            for thing in things:
                for value in objects:
                    for other in replaced(thing, value):
                        found = work(*args, other, **more)
                        self.assertTrue(found is True or found is False)

    def test_parts_of_no_kind_of_the_document(self):
        # None of these may stand anywhere in a right thing.
        for work, args, more, things in JUDGES:
            for thing in things:
                for value in (None, True, False, 1.0, 0.0, 1j, "A", b"a", -1, 10 ** 6000 * -1, frozenset(), object(),
                              len, range(1), SEEN, tank(), {None: None}, own_list(), deep_list(), deep_dict(),
                              deep_tuple(), [None], (None,)):
                    for other in replaced(thing, value):
                        self.assertIs(work(*args, other, **more), False)

    def test_parts_left_out_or_twice(self):
        for work, args, more, things in JUDGES:
            for thing in things:
                found = [work(*args, other, **more) for other in left_out_or_twice(thing)]
                self.assertTrue(all(each is True or each is False for each in found))
                self.assertTrue(not found or False in found)

    def test_keys_of_dicts(self):
        work, args, more, ((ahead, behind),) = JUDGES[1]
        for value in (None, True, -1, 0, 1.5, 10 ** 6000, "A", "fill", b"a", (), (0,), (0, 0, 0), (0, 4), (0, -1),
                      (0, True), (0, 0.5), (0, "a"), (0, None), (0, (0,)), ((0, 0),), frozenset([0, 3]), len, object(),
                      range(2), Machine, Ellipsis, 1j, "\ud800"):
            self.assertIs(work(*args, (ahead, {**behind, value: 0}), **more), False)
        self.assertIs(work(*args, (ahead, {**behind, (1, 3): 0}), **more), True)


class Met(Case):
    """Point [35] for all functions that it and points [50], [60], [72] and [75] speak of."""
    ROW_WORKS = [
        late.late, late.ranks, late.endless, lambda *args: late.alike_runs(*args, 0),
        lambda *args: late.alike_runs(*args, 100), foretold.ahead, lambda *args: foretold.untold(*args, 0),
        lambda *args: foretold.untold(*args, 100),
    ]

    def one_watch_works(self, machine):
        def changed(words):
            post = Post(machine)
            post.follow(seeing(words))
            return post

        return [lambda: least.enough(machine, ["hole"], []), lambda: least.enough(machine, ["hole"], [], within=3),
                lambda: least.least_sets(machine, ["hole"], ["bad", "u"]),
                lambda: least.least_sets(machine, ["hole"], [], within=0),
                lambda: least.cheapest(machine, ["hole"], {"bad": 1}),
                lambda: least.cheapest(machine, ["hole"], {}, within=100),
                lambda: Post(machine).late("hole"), lambda: changed(["bad"]).tried([("bad", None)], "hole"),
                lambda: Post(machine).tried([("v", "x")], "hole")]

    def test_5000_met_tuples(self):
        for machine, row in (many_tuples(0), (unseen_ring(50, 0), [Watch()])):
            for work in self.ROW_WORKS:
                work(machine, row, "hole")
        for work in self.one_watch_works(unseen_ring(50, 0)):
            work()

    def test_more_met_tuples(self):
        for machine, row in (many_tuples(1), (unseen_ring(50, 1), [Watch()])):
            for work in self.ROW_WORKS:
                self.refuse(errors.TooMany, "limit", 5000, work, machine, row, "hole")
                # The errors of the arguments come ahead of it.
                self.refuse(errors.NoFault, "name", "bad", work, machine, row, "bad")
                self.refuse(errors.BadWatches, "at", -1, work, machine, row * 4, "hole")
            for work in (late.alike_runs, foretold.untold):
                self.refuse(errors.BadCount, "value", 101, work, machine, row, "hole", 101)
        for work in self.one_watch_works(unseen_ring(50, 1)):
            self.refuse(errors.TooMany, "limit", 5000, work)

    def test_watches_that_see_enough(self):
        machine = unseen_ring(50, 1)
        for work in self.ROW_WORKS:
            work(machine, [seeing(["bad", "u"])], "hole")
            self.refuse(errors.TooMany, "limit", 5000, work, machine, [seeing(["bad", "u"]), Watch(), Watch()], "hole")
        self.assertIs(least.enough(machine, ["hole"], ["bad"]), True)

    def test_no_judge_and_no_other_function_minds(self):
        machine, row = unseen_ring(50, 1), [Watch()]
        right = ((51, 52), ())
        self.assertIs(late.is_ranks(machine, row, "hole", 5000, ([], {})), False)
        self.assertIs(late.is_alike(machine, row, "hole", 1, right), True)
        self.assertIs(late.is_endless(machine, row, "hole", (right, ((52,), ()))), True)
        self.assertIs(foretold.is_untold(machine, row, "hole", 0, ((), (), (((), (), tuple(range(50))),))), True)
        self.assertIs(least.is_against(machine, ["hole"], {}, 1, [((), "hole", (right, ((52,), ())))]), True)
        self.assertIs(least.is_against(machine, ["hole"], {}, 1, [((), "hole", right)], within=1), True)
        self.assertEqual(foretold.avoiding(machine, "hole"), machine.states)
        self.assertIs(finer.finer(machine, all_seen(machine), Watch()), True)
        self.assertEqual(len(losses.with_losses(machine, Watch(), 3)[0].steps), len(machine.steps))


if __name__ == "__main__":
    unittest.main()
