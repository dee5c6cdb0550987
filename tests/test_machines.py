"""Points [4], [5], [6] and [8] to [10]: machines, their errors, their properties, == and !=."""

import unittest
from unittest import mock

from knownlate.errors import BadFaults, BadState, BadSteps, NotLive, TooMany
from knownlate.machines import Machine
from tests.samples import TANK_STEPS, clock, deep_dict, deep_list, deep_tuple, odd_objects, odd_rows, own_list
from tests.samples import fan, ring, same, tank, word


class MachineCase(unittest.TestCase):
    def refuse(self, error, attribute, value, *args):
        with self.assertRaises(error) as caught:
            Machine(*args)
        self.assertIs(caught.exception.__class__, error)
        self.assertTrue(same(getattr(caught.exception, attribute), value))


class Properties(MachineCase):
    def test_tank(self):
        made = tank()
        self.assertEqual(made.start, 0)
        self.assertEqual(made.steps, TANK_STEPS)
        self.assertEqual(made.words, ["alarm", "drip", "fill", "leak"])
        self.assertEqual(made.fault_names, ["hole"])
        self.assertEqual(made.faults, {"leak": "hole"})
        self.assertEqual(made.states, [0, 1, 2, 3])

    def test_kinds(self):
        made = Machine(0, tuple(TANK_STEPS), {"leak": "hole"})
        for value in (made.steps, made.words, made.fault_names, made.states):
            self.assertIs(value.__class__, list)
        self.assertIs(made.faults.__class__, dict)
        self.assertEqual(made, tank())

    def test_ascending(self):
        steps = [(9, "q", 4), (4, "z", 30), (4, "b", 9), (30, "m", 2), (2, "m", 9)]
        made = Machine(9, steps, {"z": "x", "b": "y", "q": "a"})
        self.assertEqual(made.steps, steps)
        self.assertEqual(made.words, ["b", "m", "q", "z"])
        self.assertEqual(list(made.faults.items()), [("b", "y"), ("q", "a"), ("z", "x")])
        self.assertEqual(made.fault_names, ["a", "x", "y"])
        self.assertEqual(made.states, [2, 4, 9, 30])

    def test_states_are_numbers_in_order_and_not_strings(self):
        made = Machine(10, [(10, "a", 9), (9, "a", 10)])
        self.assertEqual(made.states, [9, 10])

    def test_unreached_steps_count_for_words_and_faults_and_not_for_states(self):
        made = Machine(0, [(5, "far", 6), (0, "go", 0), (5, "near", 0)], {"far": "lost"})
        self.assertEqual(made.states, [0])
        self.assertEqual(made.words, ["far", "go", "near"])
        self.assertEqual(made.fault_names, ["lost"])
        self.assertEqual(made.faults, {"far": "lost"})
        self.assertEqual(len(made.steps), 3)

    def test_no_faults(self):
        for made in (Machine(0, TANK_STEPS), Machine(0, TANK_STEPS, None), Machine(0, TANK_STEPS, {})):
            self.assertEqual(made.faults, {})
            self.assertEqual(made.fault_names, [])

    def test_words_of_one_fault_name(self):
        made = Machine(0, TANK_STEPS, {"leak": "hole", "drip": "hole", "alarm": "end"})
        self.assertEqual(made.fault_names, ["end", "hole"])
        self.assertEqual(list(made.faults), ["alarm", "drip", "leak"])

    def test_several_steps_with_one_word(self):
        made = Machine(0, [(0, "go", 1), (0, "go", 0), (1, "go", 0)])
        self.assertEqual(made.words, ["go"])
        self.assertEqual(made.states, [0, 1])

    def test_names_of_arguments(self):
        self.assertEqual(Machine(start=0, steps=TANK_STEPS, faults={"leak": "hole"}), tank())

    def test_states_0_and_99(self):
        made = Machine(99, [(99, "a", 0), (0, "a", 99)])
        self.assertEqual([made.start, made.states], [99, [0, 99]])

    def test_all_as_large_as_allowed(self):
        steps = [(at // 8, word(at % 14), (at + 1) // 8 % 10) for at in range(80)]
        made = Machine(0, steps, {word(0): "a", word(1): "b", word(2): "c", word(3): "a"})
        self.assertEqual(len(made.steps), 80)
        self.assertEqual(len(made.words), 14)
        self.assertEqual(made.fault_names, ["a", "b", "c"])
        self.assertEqual(made.states, list(range(10)))


class Copies(MachineCase):
    def test_later_changes_of_the_arguments_have_no_effect(self):
        steps = list(TANK_STEPS)
        faults = {"leak": "hole"}
        made = Machine(0, steps, faults)
        steps.append((3, "off", 3))
        steps[0] = (0, "other", 0)
        faults["leak"] = "crack"
        faults["fill"] = "flood"
        self.assertEqual(made, tank())
        self.assertEqual(made.words, tank().words)

    def test_arguments_stay_as_they_are(self):
        steps = list(TANK_STEPS)
        faults = {"leak": "hole", "alarm": "end", "drip": "a"}
        Machine(0, steps, faults)
        self.assertEqual(steps, TANK_STEPS)
        self.assertEqual(list(faults.items()), [("leak", "hole"), ("alarm", "end"), ("drip", "a")])

    def test_changes_of_what_was_returned_have_no_effect(self):
        made = tank()
        made.steps.clear()
        made.words.append("other")
        made.fault_names.clear()
        made.faults["fill"] = "flood"
        made.states.pop()
        self.assertEqual(made, tank())
        self.assertEqual(made.steps, TANK_STEPS)
        self.assertEqual(made.words, ["alarm", "drip", "fill", "leak"])
        self.assertEqual(made.fault_names, ["hole"])
        self.assertEqual(made.faults, {"leak": "hole"})
        self.assertEqual(made.states, [0, 1, 2, 3])

    def test_each_list_is_a_new_one(self):
        made = tank()
        for name in ("steps", "words", "fault_names", "faults", "states"):
            self.assertIsNot(getattr(made, name), getattr(made, name), name)

    def test_properties_cannot_be_set(self):
        made = tank()
        for name in ("start", "steps", "words", "fault_names", "faults", "states"):
            with self.assertRaises(AttributeError):
                setattr(made, name, 1)
        self.assertEqual(made, tank())

    def test_the_order_of_the_faults_means_nothing(self):
        one = Machine(0, TANK_STEPS, {"leak": "hole", "drip": "wet"})
        other = Machine(0, TANK_STEPS, {"drip": "wet", "leak": "hole"})
        self.assertEqual(one, other)
        self.assertEqual(list(one.faults), list(other.faults))

    def test_nothing_has_changed_after_an_error(self):
        made = tank()
        for wrong in ((-1, TANK_STEPS), (0, []), (0, [(0, "a", 1)]), (0, TANK_STEPS, {"leak": 1})):
            with self.assertRaises(ValueError):
                made.__init__(*wrong)
            self.assertEqual(made, tank())
            self.assertEqual([made.words, made.states], [tank().words, tank().states])


class Comparing(MachineCase):
    def check(self, one, other, expected):
        self.assertIs(one == other, expected)
        self.assertIs(other == one, expected)
        self.assertIs(one != other, not expected)
        self.assertIs(other != one, not expected)

    def test_equal(self):
        made = tank()
        self.check(made, made, True)
        self.check(made, tank(), True)
        self.check(Machine(0, tuple(TANK_STEPS), {"leak": "hole"}), tank(), True)
        self.check(Machine(0, TANK_STEPS), Machine(0, TANK_STEPS, {}), True)

    def test_unequal(self):
        twist = [TANK_STEPS[1], TANK_STEPS[0]] + TANK_STEPS[2:]
        self.check(tank(), Machine(2, TANK_STEPS, {"leak": "hole"}), False)
        self.check(tank(), Machine(0, twist, {"leak": "hole"}), False)
        self.check(tank(), Machine(0, TANK_STEPS + [(3, "alarm", 0)], {"leak": "hole"}), False)
        self.check(tank(), Machine(0, TANK_STEPS), False)
        self.check(tank(), Machine(0, TANK_STEPS, {"leak": "crack"}), False)
        self.check(tank(), Machine(0, TANK_STEPS, {"drip": "hole"}), False)
        self.check(tank(), clock(), False)

    def test_unreached_steps_count(self):
        self.check(Machine(0, [(0, "a", 0)]), Machine(0, [(0, "a", 0), (1, "a", 0)]), False)

    def test_objects_of_other_kinds(self):
        for value in odd_objects() + odd_rows() + [None, 0, TANK_STEPS, (0, TANK_STEPS, {"leak": "hole"})]:
            self.check(tank(), value, False)

    def test_an_object_that_is_equal_to_all(self):
        self.assertIs(tank() == mock.ANY, False)


class WrongStart(MachineCase):
    def test_wrong_starts(self):
        for value in odd_objects() + odd_rows() + [None, -1, 100, True, False, 0.0, "0", clock()]:
            self.refuse(BadState, "value", value, value, TANK_STEPS)

    def test_ahead_of_all_else(self):
        self.refuse(BadState, "value", -1, -1, [], {"a": 1})
        self.refuse(BadState, "value", 100, 100, None, 5)


class WrongSteps(MachineCase):
    def test_no_row(self):
        dicts = [value for value in odd_rows() if isinstance(value, dict)]
        for value in odd_objects() + dicts + [None, 0, clock(), "fill", {0: (0, "a", 0)}, iter(TANK_STEPS)]:
            self.refuse(BadSteps, "at", -1, 0, value)

    def test_no_items(self):
        self.refuse(BadSteps, "at", -1, 0, [])
        self.refuse(BadSteps, "at", -1, 0, ())

    def test_80_and_81_steps(self):
        steps = [(at // 8, word(at % 8), 0) for at in range(80)] + [(10, "wa", 0)]
        self.assertEqual(len(Machine(0, steps[:80]).steps), 80)
        self.refuse(BadSteps, "at", -1, 0, steps)
        self.refuse(BadSteps, "at", -1, 0, tuple(steps))
        self.refuse(BadSteps, "at", -1, 0, [5] * 81)

    def test_items_of_odd_kinds(self):
        for value in odd_objects() + odd_rows() + [None, 0, "a", clock(), [0, "a", 0]]:
            self.refuse(BadSteps, "at", 0, 0, [value])
            self.refuse(BadSteps, "at", 1, 0, ((0, "a", 0), value, 5))

    def test_parts_of_odd_kinds(self):
        for value in odd_objects() + odd_rows() + [None, clock()]:
            self.refuse(BadSteps, "at", 1, 0, [(0, "a", 0), (value, "a", 0)])
            self.refuse(BadSteps, "at", 1, 0, [(0, "a", 0), (0, value, 0)])
            self.refuse(BadSteps, "at", 1, 0, [(0, "a", 0), (0, "a", value)])

    def test_parts_at_the_edges(self):
        good = (0, "a", 0)
        for step in ((0, "a"), (0, "a", 0, 0), (), (0, "a", 100), (0, "a", -1), (100, "a", 0), (-1, "a", 0),
                     (True, "b", 0), (0, "b", False), (0, "", 0), (0, "abcdefghijklm", 0), (0, "A", 0), (0, 0, 0),
                     ("a", 0, 0), (0.0, "a", 1), (0, "b", 1.0), [0, "b", 0], "aaa"):
            self.refuse(BadSteps, "at", 1, 0, [good, step, good])

    def test_names_of_1_and_12_letters(self):
        made = Machine(0, [(0, "a", 0), (0, "abcdefghijkl", 0)])
        self.assertEqual(made.words, ["a", "abcdefghijkl"])

    def test_equal_items(self):
        self.refuse(BadSteps, "at", 1, 0, [(0, "a", 0), (0, "a", 0)])
        self.refuse(BadSteps, "at", 3, 0, [(0, "a", 0), (0, "a", 1), (1, "a", 0), (0, "a", 1), (0, "a", 0)])
        self.refuse(BadSteps, "at", 2, 0, [(0, "a", 0), (7, "a", 0), (7, "a", 0)])

    def test_items_that_only_look_equal(self):
        # True == 1, so a comparison alone would find an earlier item and another reason, at the same place.
        self.refuse(BadSteps, "at", 1, 1, [(1, "a", 1), (True, "a", 1)])

    def test_8_and_9_steps_of_one_state(self):
        steps = [(0, "a", at) for at in range(9)] + [(at, "b", 0) for at in range(1, 9)]
        self.assertEqual(len(Machine(0, steps[:8] + steps[9:]).steps), 16)
        self.refuse(BadSteps, "at", 8, 0, steps)
        mixed = [(3, "c", 3)] + steps[:8] + [(3, "d", 3)] + steps[8:]
        self.refuse(BadSteps, "at", 10, 0, mixed)

    def test_9_steps_of_a_state_that_is_not_reached(self):
        self.refuse(BadSteps, "at", 9, 0, [(0, "a", 0)] + [(5, "a", at) for at in range(9)])

    def test_9_steps_that_enter_one_state(self):
        self.assertEqual(len(Machine(0, [(at, "a", 0) for at in range(20)]).steps), 20)

    def test_the_first_index_counts(self):
        nine = [(0, "a", at) for at in range(9)]
        self.refuse(BadSteps, "at", 2, 0, [(0, "a", 0), (0, "b", 0), (0, "a", 0), 5])
        self.refuse(BadSteps, "at", 2, 0, [(0, "a", 0), (0, "b", 0), 5, (0, "a", 0)])
        self.refuse(BadSteps, "at", 8, 0, nine + [5])
        self.refuse(BadSteps, "at", 7, 0, nine[:7] + [5] + nine[7:])
        self.refuse(BadSteps, "at", 8, 0, nine[:8] + [nine[0]])

    def test_ahead_of_words_faults_and_states(self):
        many = [(0, word(at), 1 + at) for at in range(8)] + [(1, word(8 + at), 1 + at) for at in range(8)]
        self.refuse(BadSteps, "at", 16, 0, many + [many[0]], 5)
        self.refuse(TooMany, "limit", 14, 0, many, 5)


class TooManyWords(MachineCase):
    def steps(self, many):
        return [(at // 5, word(at), (at // 5 + 1) % 4) for at in range(many)] + [(at, "waa", at) for at in range(4)]

    def test_14_and_15_words(self):
        self.assertEqual(len(Machine(0, self.steps(14)).words), 14)
        self.refuse(TooMany, "limit", 14, 0, self.steps(15))

    def test_words_of_unreached_states_count(self):
        steps = [(0, word(0), 0)] + [(at, word(at), 0) for at in range(1, 15)]
        self.assertEqual(len(Machine(0, steps[:14]).words), 14)
        self.refuse(TooMany, "limit", 14, 0, steps)

    def test_ahead_of_faults_and_states(self):
        for faults in (None, 5, {"nope": "hole"}):
            self.refuse(TooMany, "limit", 14, 0, self.steps(15), faults)
        self.refuse(TooMany, "limit", 14, 9, self.steps(15))


class WrongFaults(MachineCase):
    def test_no_dict(self):
        rows = [value for value in odd_rows() if not isinstance(value, dict)]
        for value in odd_objects() + rows + [0, clock(), "leak", [("leak", "hole")], deep_tuple()]:
            self.refuse(BadFaults, "word", None, 0, TANK_STEPS, value)

    def test_keys_that_are_no_words_of_the_steps(self):
        for key in (None, 0, 1, True, 1.5, "", "Leak", "hole", "other", "abcdefghijklm", ("leak",), b"leak",
                    frozenset(["leak"]), (((),),), object(), len, 10 ** 6000):
            self.refuse(BadFaults, "word", key, 0, TANK_STEPS, {"leak": "hole", key: "hole"})
            self.refuse(BadFaults, "word", key, 0, TANK_STEPS, {key: "hole", "leak": 5})

    def test_values_that_are_no_names(self):
        for value in odd_objects() + odd_rows() + [None, 0, clock(), deep_list(), deep_dict(), own_list()]:
            self.refuse(BadFaults, "word", "leak", 0, TANK_STEPS, {"fill": "flood", "leak": value, "drip": 5})

    def test_names_of_faults_at_the_edges(self):
        for name in ("a", "abcdefghijkl", "fill"):
            self.assertEqual(Machine(0, TANK_STEPS, {"leak": name}).fault_names, [name])
        self.refuse(BadFaults, "word", "leak", 0, TANK_STEPS, {"leak": "abcdefghijklm"})
        self.refuse(BadFaults, "word", "leak", 0, TANK_STEPS, {"leak": ""})

    def test_the_order_of_the_dict_counts(self):
        self.refuse(BadFaults, "word", "zoo", 0, TANK_STEPS, {"zoo": "a", "ant": "a"})
        self.refuse(BadFaults, "word", "ant", 0, TANK_STEPS, {"ant": "a", "zoo": "a"})
        self.refuse(BadFaults, "word", "leak", 0, TANK_STEPS, {"leak": 1, "alarm": 1})

    def test_3_and_4_names_of_faults(self):
        words = [word(at) for at in range(6)]
        made = Machine(0, [(0, each, 0) for each in words], dict(zip(words, "abcabc")))
        self.assertEqual(made.fault_names, ["a", "b", "c"])
        steps = made.steps
        self.refuse(BadFaults, "word", words[3], 0, steps, dict(zip(words, "abcdef")))
        self.refuse(BadFaults, "word", words[5], 0, steps, dict(zip(words, "abcabd")))
        self.refuse(BadFaults, "word", words[2], 0, steps, dict(zip(reversed(words), "abcdef")))
        self.refuse(BadFaults, "word", words[1], 0, steps, {words[0]: "a", words[1]: 5, words[2]: "b"})

    def test_ahead_of_states(self):
        self.refuse(BadFaults, "word", None, 0, [(0, "a", 1)], [])
        self.refuse(BadFaults, "word", "b", 0, [(0, "a", 1)], {"b": "hole"})


class NotLiveMachines(MachineCase):
    def test_the_example(self):
        self.refuse(NotLive, "state", 3, 0, [(0, "go", 1), (1, "go", 2), (2, "on", 2), (1, "off", 3)])

    def test_the_least_reached_state(self):
        self.refuse(NotLive, "state", 4, 9, [(9, "a", 30), (9, "a", 4), (9, "a", 11)])
        self.refuse(NotLive, "state", 9, 11, [(11, "a", 10), (11, "a", 9)])

    def test_the_start_without_steps(self):
        self.refuse(NotLive, "state", 5, 5, [(0, "a", 1)])

    def test_unreached_states_need_no_steps(self):
        self.assertEqual(Machine(0, [(0, "a", 0), (1, "a", 2)]).states, [0])

    def test_far_states(self):
        steps = [(at, "go", at + 1) for at in range(79)]
        self.refuse(NotLive, "state", 79, 0, steps)
        self.assertEqual(Machine(0, steps + [(79, "go", 79)]).states, list(range(80)))
        self.assertEqual(ring(80).states, list(range(80)))

    def test_faults_do_not_hide_it(self):
        self.refuse(NotLive, "state", 1, 0, [(0, "a", 1)], {"a": "hole"})


class Samples(unittest.TestCase):
    def test_fan(self):
        self.assertEqual(fan(["a", "b"]).steps, [(0, "a", 0), (0, "b", 0)])


if __name__ == "__main__":
    unittest.main()
