"""Points [14] to [21] and [3] to [6] for them: watches, their items, operators, properties and errors."""

import random
import unittest
from unittest import mock

from knownlate.errors import BadFaults, BadState, BadSteps, BadWatch, BadWord
from knownlate.machines import Machine
from knownlate.watches import Watch, all_seen, seeing
from tests.samples import DEPTH, clock, deep_dict, deep_list, deep_tuple, no_watches, odd_objects, odd_rows, same, tank

UP = {"fill": "up", "drip": "down", "leak": "up"}


def shown(watch):
    """The dict of a watch, by what it shows."""
    return {each: watch[each] for each in watch.words}


class WatchCase(unittest.TestCase):
    def refuse(self, error, value, work):
        with self.assertRaises(error) as caught:
            work()
        self.assertIs(caught.exception.__class__, error)
        self.assertTrue(same(caught.exception.value, value))

    def is_watch(self, value, sights):
        self.assertIs(value.__class__, Watch)
        self.assertEqual(shown(value), sights)
        self.assertEqual(len(value), len(sights))


class Making(WatchCase):
    def test_sights(self):
        self.is_watch(Watch(UP), UP)
        self.is_watch(Watch(), {})
        self.is_watch(Watch(None), {})
        self.is_watch(Watch({}), {})
        self.is_watch(Watch(sights=UP), UP)
        self.is_watch(Watch({"a": "abcdefghijkl", "abcdefghijkl": "a"}), {"a": "abcdefghijkl", "abcdefghijkl": "a"})

    def test_the_dict_is_copied(self):
        sights = dict(UP)
        made = Watch(sights)
        sights["fill"] = "other"
        del sights["drip"]
        self.is_watch(made, UP)
        made["leak"] = None
        self.assertEqual(sights, {"fill": "other", "leak": "up"})

    def test_objects_that_are_no_dicts(self):
        for value in no_watches() + [Watch(), Watch(UP), [("fill", "up")], "fill"]:
            if value is not None and not isinstance(value, dict):
                self.refuse(BadWatch, value, lambda: Watch(value))

    def test_keys_that_are_no_names(self):
        for key in (None, 0, True, 1.5, "", "Fill", "a b", "abcdefghijklm", ("fill",), b"fill", frozenset(["a"]),
                    object(), len, 10 ** 6000, float("nan"), "\ud800"):
            sights = {"fill": "up", key: "up"}
            self.refuse(BadWatch, sights, lambda: Watch(sights))

    def test_values_that_are_no_names(self):
        for value in odd_objects() + odd_rows() + [None, 0, tank(), Watch()]:
            sights = {"fill": "up", "drip": value}
            self.refuse(BadWatch, sights, lambda: Watch(sights))

    def test_deep_objects(self):
        for value in (deep_list(), deep_tuple(), deep_dict()):
            self.refuse(BadWatch, value, lambda: Watch(value))
        self.assertGreaterEqual(DEPTH, 100000)

    def test_nothing_has_changed_after_an_error(self):
        made = Watch(UP)
        self.refuse(BadWatch, 5, lambda: made.__init__(5))
        self.is_watch(made, UP)


class Items(WatchCase):
    def test_sights_of_words(self):
        made = Watch(UP)
        self.assertEqual([made["fill"], made["drip"], made["leak"]], ["up", "down", "up"])
        self.assertIsNone(made["up"])
        self.assertIsNone(made["alarm"])
        self.assertIsNone(Watch()["a"])

    def test_setting(self):
        made = Watch(UP)
        made["fill"] = "other"
        made["alarm"] = "abcdefghijkl"
        made["drip"] = "down"
        self.is_watch(made, {"fill": "other", "drip": "down", "leak": "up", "alarm": "abcdefghijkl"})

    def test_none_removes(self):
        made = Watch(UP)
        made["fill"] = None
        self.is_watch(made, {"drip": "down", "leak": "up"})
        made["fill"] = None
        made["alarm"] = None
        self.is_watch(made, {"drip": "down", "leak": "up"})
        self.assertNotIn("fill", made)

    def test_words_that_are_no_names(self):
        made = Watch(UP)
        for value in odd_objects() + odd_rows() + [None, 0, tank(), slice(1, 2), deep_tuple()]:
            self.refuse(BadWord, value, lambda: made[value])
            self.refuse(BadWord, value, lambda: made.__setitem__(value, "up"))
            self.refuse(BadWord, value, lambda: made.__setitem__(value, None))
            self.refuse(BadWord, value, lambda: made.__setitem__(value, 5))
        self.is_watch(made, UP)

    def test_sights_that_are_no_names(self):
        made = Watch(UP)
        for value in odd_objects() + odd_rows() + [0, tank(), ["up"], False]:
            self.refuse(BadWord, value, lambda: made.__setitem__("fill", value))
            self.refuse(BadWord, value, lambda: made.__setitem__("alarm", value))
        self.is_watch(made, UP)

    def test_in(self):
        made = Watch(UP)
        for value in ("fill", "drip", "leak"):
            self.assertIs(value in made, True)
            self.assertIs(value not in made, False)
        for value in odd_objects() + odd_rows() + [None, 0, "up", "alarm", tank(), "", "Fill", ["fill"]]:
            self.assertIs(made.__contains__(value), False)
            self.assertIs(value in made, False)

    def test_len_and_truth(self):
        self.assertEqual([len(Watch()), len(Watch(UP)), len(seeing(["a", "a"]))], [0, 3, 1])
        self.assertIs(bool(Watch()), False)
        self.assertIs(bool(Watch(UP)), True)
        made = Watch({"a": "b"})
        made["a"] = None
        self.assertIs(bool(made), False)

    def test_no_iteration(self):
        for made in (Watch(UP), Watch()):
            for work in (iter, list, tuple, set, sorted, dict, enumerate, lambda value: [*value],
                         lambda value: [each for each in value], lambda value: zip(value), min, sum):
                with self.assertRaises(TypeError):
                    work(made)


class Properties(WatchCase):
    def test_words_and_sights(self):
        made = Watch({"q": "z", "b": "m", "m": "z", "a": "b"})
        self.assertEqual(made.words, ["a", "b", "m", "q"])
        self.assertEqual(made.sights, ["b", "m", "z"])
        self.assertEqual([Watch().words, Watch().sights], [[], []])
        self.assertEqual([made.words.__class__, made.sights.__class__], [list, list])

    def test_changes_of_what_was_returned_have_no_effect(self):
        made = Watch(UP)
        made.words.append("other")
        made.sights.clear()
        self.assertEqual([made.words, made.sights], [["drip", "fill", "leak"], ["down", "up"]])

    def test_properties_cannot_be_set(self):
        made = Watch(UP)
        for name in ("words", "sights"):
            with self.assertRaises(AttributeError):
                setattr(made, name, [])
        self.is_watch(made, UP)

    def test_copy(self):
        made = Watch(UP)
        again = made.copy()
        self.is_watch(again, UP)
        self.assertIsNot(again, made)
        again["fill"] = None
        made["drip"] = "wet"
        self.is_watch(again, {"drip": "down", "leak": "up"})
        self.is_watch(made, {"fill": "up", "drip": "wet", "leak": "up"})

    def test_within(self):
        made = Watch(UP)
        for sights, expected in (({}, False), (UP, True), ({**UP, "alarm": "up"}, True), ({"fill": "up"}, False),
                                 ({**UP, "leak": "down"}, False), ({**UP, "leak": "leak"}, False)):
            self.assertIs(made.within(Watch(sights)), expected)
        self.assertIs(Watch().within(made), True)
        self.assertIs(Watch().within(Watch()), True)
        self.assertIs(Watch({"fill": "up"}).within(other=made), True)
        self.assertIs(Watch({"fill": "down"}).within(made), False)
        self.assertIs(made.within(made), True)

    def test_within_no_watch(self):
        for value in no_watches() + [UP, None]:
            self.refuse(BadWatch, value, lambda: Watch(UP).within(value))
            self.refuse(BadWatch, value, lambda: Watch().within(value))


class Comparing(WatchCase):
    def check(self, one, other, expected):
        self.assertIs(one == other, expected)
        self.assertIs(other == one, expected)
        self.assertIs(one != other, not expected)
        self.assertIs(other != one, not expected)

    def test_equal(self):
        made = Watch(UP)
        self.check(made, made, True)
        self.check(made, Watch({"leak": "up", "drip": "down", "fill": "up"}), True)
        self.check(Watch(), Watch({}), True)

    def test_unequal(self):
        for sights in ({}, {"fill": "up"}, {**UP, "a": "b"}, {**UP, "fill": "down"}, {"drip": "up", "fill": "down"}):
            self.check(Watch(UP), Watch(sights), False)

    def test_objects_of_other_kinds(self):
        for value in no_watches() + [UP, None, ["fill"], tank()]:
            self.check(Watch(UP), value, False)
            self.check(Watch(), value, False)
        self.check(Watch(), {}, False)
        self.assertIs(Watch() == mock.ANY, False)

    def test_machines_beside_watches(self):
        made = Watch({"a": "a"})
        self.check(clock(), made, False)
        self.refuse(BadState, made, lambda: clock().beside(made))
        self.refuse(BadState, made, lambda: clock().renumbered(made))
        self.refuse(BadState, made, lambda: Machine(made, []))
        for error, work in ((BadSteps, lambda: Machine(0, made)), (BadSteps, lambda: Machine(0, [made])),
                            (BadFaults, lambda: Machine(0, [(0, "a", 0)], made))):
            with self.assertRaises(error):
                work()


class Operators(WatchCase):
    def test_the_example(self):
        one = Watch({"fill": "up", "drip": "down"})
        other = {"fill": "up", "drip": "wet"} | one
        self.assertEqual([other["drip"], (one & {"fill": "up"}).words, (one - ["fill", "leak"]).words],
                         ["wet", ["fill"], ["drip"]])

    def test_or(self):
        one, other = Watch({"a": "x", "b": "y"}), Watch({"b": "z", "c": "x"})
        self.is_watch(one | other, {"a": "x", "b": "y", "c": "x"})
        self.is_watch(other | one, {"a": "x", "b": "z", "c": "x"})
        self.is_watch(one | {"b": "z", "c": "x"}, {"a": "x", "b": "y", "c": "x"})
        self.is_watch({"b": "z", "c": "x"} | one, {"a": "x", "b": "z", "c": "x"})
        self.is_watch(one | {}, {"a": "x", "b": "y"})
        self.is_watch({} | Watch(), {})

    def test_and(self):
        one, other = Watch({"a": "x", "b": "y", "d": "q"}), Watch({"b": "z", "a": "x", "c": "x"})
        self.is_watch(one & other, {"a": "x"})
        self.is_watch(other & one, {"a": "x"})
        self.is_watch(one & {"b": "y", "d": "d"}, {"b": "y"})
        self.is_watch({"b": "y", "d": "d"} & one, {"b": "y"})
        self.is_watch(one & {}, {})
        self.is_watch(one & one, {"a": "x", "b": "y", "d": "q"})

    def test_minus(self):
        one = Watch({"a": "x", "b": "y", "c": "x"})
        self.is_watch(one - ["a", "x", "a"], {"b": "y", "c": "x"})
        self.is_watch(one - ("c", "b", "a"), {})
        self.is_watch(one - [], {"a": "x", "b": "y", "c": "x"})
        self.is_watch(Watch() - ["a"], {})

    def test_results_are_new_and_arguments_stay(self):
        one, other, sights, words = Watch({"a": "x"}), Watch({"b": "y"}), {"c": "z"}, ["a"]
        made = [one | other, one & one, one - [], one | sights, sights | one, one | Watch()]
        for each in made:
            self.assertIsNot(each, one)
            each["q"] = "q"
            each["a"] = None
        self.is_watch(one - words, {})
        self.is_watch(one, {"a": "x"})
        self.is_watch(other, {"b": "y"})
        self.assertEqual([sights, words], [{"c": "z"}, ["a"]])
        joined = one | other
        one["a"] = "other"
        other["b"] = None
        self.is_watch(joined, {"a": "x", "b": "y"})

    def test_in_place(self):
        one = Watch({"a": "x", "b": "y"})
        kept = one
        one |= Watch({"b": "z", "c": "z"})
        self.assertIs(one, kept)
        self.is_watch(one, {"a": "x", "b": "y", "c": "z"})
        one |= {"d": "d"}
        one -= ["a", "q"]
        one -= ("b",)
        self.assertIs(one, kept)
        self.is_watch(kept, {"c": "z", "d": "d"})
        one |= one
        self.is_watch(kept, {"c": "z", "d": "d"})

    def test_in_place_changes_no_other_watch(self):
        one, other = Watch({"a": "x"}), Watch({"b": "y"})
        again, joined = one.copy(), one | other
        one |= other
        other["b"] = "other"
        one -= ["a"]
        self.is_watch(one, {"b": "y"})
        self.is_watch(again, {"a": "x"})
        self.is_watch(joined, {"a": "x", "b": "y"})
        self.is_watch(other, {"b": "other"})

    def test_and_in_place_makes_a_new_watch(self):
        one = Watch({"a": "x", "b": "y"})
        kept = one
        one &= {"a": "x"}
        self.is_watch(kept, {"a": "x", "b": "y"})
        self.is_watch(one, {"a": "x"})

    def wrong_sides(self):
        dicts = [{"a": None}, {"a": "A"}, {1: "a"}, {"": "a"}, {"a": deep_list()}, {None: None}, {"a": Watch()}]
        return [value for value in no_watches() if not isinstance(value, dict)] + dicts

    def test_sides_that_are_no_watches(self):
        made = Watch(UP)
        for value in self.wrong_sides():
            self.refuse(BadWatch, value, lambda: made | value)
            self.refuse(BadWatch, value, lambda: made & value)
            self.refuse(BadWatch, value, lambda: made.__ior__(value))
            # Views of dicts on the left go over the right side by themselves, and a watch is not gone over.
            if value.__class__ not in ({}.keys().__class__, {}.items().__class__):
                self.refuse(BadWatch, value, lambda: value | made)
                self.refuse(BadWatch, value, lambda: value & made)
        self.refuse(BadWatch, None, lambda: made | None)
        self.refuse(BadWatch, None, lambda: None & made)
        self.is_watch(made, UP)

    def test_words_that_are_no_rows(self):
        made = Watch(UP)
        for value in odd_objects() + [None, 0, "fill", {"fill": "up"}, deep_dict(), tank(), Watch(UP)]:
            self.refuse(BadWatch, value, lambda: made - value)
            self.refuse(BadWatch, value, lambda: made.__isub__(value))
            self.refuse(BadWatch, value, lambda: seeing(value))
        self.is_watch(made, UP)

    def test_items_that_are_no_names(self):
        made = Watch(UP)
        for value in odd_objects() + odd_rows() + [None, 0, tank()]:
            for row in ([value], ("fill", value, 5), ["fill", value]):
                self.refuse(BadWord, value, lambda: made - row)
                self.refuse(BadWord, value, lambda: made.__isub__(row))
                self.refuse(BadWord, value, lambda: seeing(row))
        self.is_watch(made, UP)


class Functions(WatchCase):
    def test_all_seen(self):
        self.is_watch(all_seen(tank()), {"fill": "fill", "drip": "drip", "alarm": "alarm"})
        self.is_watch(all_seen(clock()), {"tick": "tick"})
        self.is_watch(all_seen(Machine(0, [(0, "a", 0), (1, "b", 1), (1, "c", 1)], {"c": "hole"})),
                      {"a": "a", "b": "b"})
        self.is_watch(all_seen(Machine(0, [(0, "a", 0)], {"a": "hole"})), {})
        made = tank()
        self.assertIsNot(all_seen(made), all_seen(made))
        all_seen(made)["fill"] = None
        self.is_watch(all_seen(made), {"fill": "fill", "drip": "drip", "alarm": "alarm"})

    def test_seeing(self):
        self.is_watch(seeing(["b", "a", "b", "abcdefghijkl"]), {"a": "a", "b": "b", "abcdefghijkl": "abcdefghijkl"})
        self.is_watch(seeing(()), {})
        self.is_watch(seeing(words=["a"]), {"a": "a"})
        words = ["a"]
        made = seeing(words)
        words.append("b")
        self.is_watch(made, {"a": "a"})


class ManyWatches(WatchCase):
    def random_sights(self, source):
        return {each: source.choice("xyz") for each in "abcde" if source.random() < 0.6}

    def test_many_watches(self):
        source = random.Random(3)
        for _ in range(500):
            left, right = self.random_sights(source), self.random_sights(source)
            one, other = Watch(left), Watch(right)
            words = source.choices("abcdefg", k=source.randrange(4))
            self.is_watch(one | other, {**right, **left})
            self.is_watch(one & other, dict(left.items() & right.items()))
            self.is_watch(one - words, {each: left[each] for each in left if each not in words})
            self.assertIs(one.within(other), left.items() <= right.items())
            self.assertIs(one == other, left == right)
            self.is_watch(one, left)


if __name__ == "__main__":
    unittest.main()
