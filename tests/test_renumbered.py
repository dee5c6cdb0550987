"""Point [13]: a machine with other numbers of its states."""

import random
import unittest

from knownlate.errors import BadState
from knownlate.machines import Machine
from tests.samples import TANK_STEPS, clock, deep_list, odd_objects, odd_rows, ring, tank
from tests.test_beside import random_machine


class Renumbered(unittest.TestCase):
    def test_tank(self):
        made = tank().renumbered({0: 40, 1: 3, 2: 2, 3: 99})
        self.assertEqual(made.steps, [
            (40, "fill", 3), (40, "leak", 2), (3, "drip", 40), (2, "fill", 99), (99, "alarm", 99)])
        self.assertEqual([made.start, made.faults, made.states], [40, {"leak": "hole"}, [2, 3, 40, 99]])
        self.assertIs(made.__class__, Machine)

    def test_the_order_of_the_dict_means_nothing(self):
        one = tank().renumbered({0: 1, 1: 2, 2: 3, 3: 0})
        self.assertEqual(one, tank().renumbered({3: 0, 1: 2, 2: 3, 0: 1}))

    def test_the_same_numbers(self):
        made = tank()
        again = made.renumbered({at: at for at in made.states})
        self.assertEqual(again, made)
        self.assertIsNot(again, made)

    def test_states_0_and_99(self):
        self.assertEqual(clock().renumbered({7: 0}), Machine(0, [(0, "tick", 0)]))
        self.assertEqual(clock().renumbered({7: 99}), Machine(99, [(99, "tick", 99)]))

    def test_unreached_steps_and_their_faults_go(self):
        made = Machine(0, [(5, "far", 0), (0, "go", 0), (5, "go", 6), (0, "snap", 0), (6, "snap", 5)],
                       {"far": "lost", "snap": "broken"})
        self.assertEqual(made.renumbered({0: 5}), Machine(5, [(5, "go", 5), (5, "snap", 5)], {"snap": "broken"}))

    def test_arguments_stay_as_they_are(self):
        made, order = tank(), {3: 0, 2: 1, 1: 2, 0: 3}
        made.renumbered(order)
        self.assertEqual([made, list(order.items())], [tank(), [(3, 0), (2, 1), (1, 2), (0, 3)]])

    def test_a_later_change_of_the_order_has_no_effect(self):
        order = {7: 1}
        made = clock().renumbered(order)
        order[7] = 2
        self.assertEqual(made.start, 1)

    def test_keyword(self):
        self.assertEqual(clock().renumbered(order={7: 0}).start, 0)

    def test_there_and_back(self):
        source = random.Random(5)
        for _ in range(200):
            made = random_machine(source, "abcdef")
            numbers = source.sample(range(100), len(made.states))
            order = dict(zip(made.states, numbers))
            back = made.renumbered(order).renumbered(dict(zip(numbers, made.states)))
            self.assertEqual(back, made.renumbered({at: at for at in made.states}))
            self.assertEqual(back.states, made.states)
            self.assertEqual(made.renumbered(order).states, sorted(numbers))


class WrongOrders(unittest.TestCase):
    def refuse(self, machine, order):
        before = machine.steps
        with self.assertRaises(BadState) as caught:
            machine.renumbered(order)
        self.assertIs(caught.exception.value, order)
        self.assertEqual(machine.steps, before)

    def test_objects_that_are_no_dicts(self):
        for value in odd_objects() + odd_rows() + [None, 7, clock(), [(7, 1)], [1], "a"]:
            self.refuse(clock(), value)

    def test_other_keys_than_the_reached_states(self):
        good = {0: 0, 1: 1, 2: 2, 3: 3}
        for at in range(4):
            self.refuse(tank(), {key: good[key] for key in good if key != at})
        for key in (4, 99, 100, -1, None, "a", "0", 0.5, (0,), frozenset(), object()):
            self.refuse(tank(), {**good, key: 50})
        self.refuse(tank(), {})
        self.refuse(clock(), {0: 7})
        far = Machine(0, [(0, "a", 0), (1, "a", 1)])
        self.refuse(far, {0: 0, 1: 1})
        self.assertEqual(far.renumbered({0: 1}).steps, [(1, "a", 1)])

    def test_keys_that_are_only_equal_to_states(self):
        self.refuse(ring(2), {False: 0, 1: 1})
        self.refuse(ring(2), {0: 0, True: 1})
        self.refuse(ring(2), {0: 0, 1.0: 1})
        self.refuse(ring(2), {0j: 0, 1: 1})

    def test_values_that_are_no_states(self):
        for value in odd_objects() + odd_rows() + [None, -1, 100, True, 1.0, "a", [1], deep_list(), clock()]:
            self.refuse(ring(2), {0: 0, 1: value})
            self.refuse(ring(2), {0: value, 1: 1})
            self.refuse(ring(2), {0: value, 1: value})

    def test_equal_values(self):
        self.refuse(ring(2), {0: 5, 1: 5})
        self.refuse(tank(), {0: 0, 1: 1, 2: 2, 3: 0})

    def test_several_at_once(self):
        self.refuse(tank(), {0: 0, 1: 0, 2: None, "a": []})
        self.assertEqual(tank().steps, TANK_STEPS)


if __name__ == "__main__":
    unittest.main()
