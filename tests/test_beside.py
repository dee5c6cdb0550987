"""Points [11] and [12]: two machines side by side, and the errors of this."""

import random
import unittest

from knownlate.errors import BadFaults, BadState, KnowError, NotLive, TooMany
from knownlate.machines import Machine
from tests.samples import TANK_STEPS, clock, fan, odd_objects, odd_rows, ring, same, tank, word


class BesideCase(unittest.TestCase):
    def refuse(self, error, attribute, value, one, other):
        with self.assertRaises(error) as caught:
            one.beside(other)
        self.assertIs(caught.exception.__class__, error)
        self.assertTrue(same(getattr(caught.exception, attribute), value), caught.exception.__dict__)


class Together(BesideCase):
    def test_the_example(self):
        made = tank().beside(clock())
        self.assertEqual(made.steps, [
            (0, "fill", 1), (0, "leak", 2), (0, "tick", 0), (1, "drip", 0), (1, "tick", 1), (2, "fill", 3),
            (2, "tick", 2), (3, "alarm", 3), (3, "tick", 3)])
        self.assertEqual([made.start, made.faults, made.states], [0, {"leak": "hole"}, [0, 1, 2, 3]])
        self.assertIs(made.__class__, Machine)

    def test_the_other_way_round(self):
        made = clock().beside(tank())
        self.assertEqual(made.steps, [
            (0, "tick", 0), (0, "fill", 1), (0, "leak", 2), (1, "tick", 1), (1, "drip", 0), (2, "tick", 2),
            (2, "fill", 3), (3, "tick", 3), (3, "alarm", 3)])
        self.assertEqual(made.faults, {"leak": "hole"})

    def test_a_common_word_is_done_at_once(self):
        one = Machine(3, [(3, "go", 4), (4, "go", 3)])
        other = Machine(5, [(5, "go", 6), (6, "go", 7), (7, "go", 5)])
        self.assertEqual(one.beside(other), ring(6))

    def test_common_steps_come_first_by_both_numbers(self):
        one = Machine(0, [(0, "own", 0), (0, "a", 0), (0, "b", 1), (0, "a", 1), (1, "own", 1)])
        other = Machine(0, [(0, "b", 0), (0, "alone", 1), (0, "a", 1), (1, "alone", 1), (0, "a", 0)])
        # From (0, 0): a to (0, 1), a to (0, 0), b to (1, 0), a to (1, 1), a to (1, 0), own, alone to (0, 1).
        # So the pairs are 0: (0, 0), 1: (0, 1), 2: (1, 0), 3: (1, 1).
        self.assertEqual(one.beside(other).steps, [
            (0, "a", 1), (0, "a", 0), (0, "b", 2), (0, "a", 3), (0, "a", 2), (0, "own", 0), (0, "alone", 1),
            (1, "own", 1), (1, "alone", 1), (2, "own", 2), (2, "alone", 3), (3, "own", 3), (3, "alone", 3)])

    def test_words_of_unreached_steps_are_common_too(self):
        one = Machine(0, [(0, "a", 0), (0, "b", 0)])
        other = Machine(0, [(0, "c", 0), (1, "b", 0)])
        self.assertEqual(one.beside(other).steps, [(0, "a", 0), (0, "c", 0)])

    def test_beside_itself(self):
        made = tank()
        self.assertEqual(made.beside(made), tank())

    def test_only_reached_pairs_are_numbered(self):
        self.assertEqual(ring(10).beside(ring(10)), ring(10))
        self.assertEqual(ring(4).beside(ring(6)), ring(12))

    def test_arguments_stay_as_they_are(self):
        one, other = tank(), clock()
        one.beside(other)
        self.assertEqual([one, other], [tank(), clock()])

    def test_equal_arguments_give_equal_values_and_new_ones(self):
        one = tank()
        self.assertEqual(one.beside(clock()), tank().beside(clock()))
        self.assertIsNot(one.beside(one), one)

    def test_keyword(self):
        self.assertEqual(tank().beside(other=clock()), tank().beside(clock()))


class Faults(BesideCase):
    def test_faults_of_both(self):
        other = Machine(0, [(0, "tick", 0), (0, "snap", 0)], {"snap": "broken"})
        made = tank().beside(other)
        self.assertEqual(list(made.faults.items()), [("leak", "hole"), ("snap", "broken")])

    def test_a_common_fault_with_one_name(self):
        other = Machine(0, [(0, "leak", 0), (0, "fill", 0)], {"leak": "hole"})
        made = tank().beside(other)
        self.assertEqual(made.faults, {"leak": "hole"})
        self.assertEqual(made.steps, TANK_STEPS)

    def test_a_word_that_is_not_done_is_no_fault(self):
        one = Machine(0, [(0, "a", 0), (0, "b", 0)], {"b": "hole"})
        other = Machine(0, [(0, "c", 0), (1, "b", 0)], {"b": "hole"})
        self.assertEqual(one.beside(other).faults, {})
        far = Machine(0, [(0, "c", 0), (1, "d", 0)], {"d": "crack"})
        self.assertEqual(one.beside(far).faults, {"b": "hole"})

    def test_the_same_fault_by_different_words(self):
        other = Machine(0, [(0, "snap", 0)], {"snap": "hole"})
        self.assertEqual(tank().beside(other).faults, {"leak": "hole", "snap": "hole"})
        self.assertEqual(tank().beside(other).fault_names, ["hole"])


class Errors(BesideCase):
    def test_objects_that_are_no_machines(self):
        for value in odd_objects() + odd_rows() + [None, 0, 5, 99, TANK_STEPS, "fill"]:
            self.refuse(BadState, "value", value, tank(), value)

    def test_common_words_with_other_faults(self):
        plain = Machine(0, TANK_STEPS)
        self.refuse(BadFaults, "word", "leak", tank(), plain)
        self.refuse(BadFaults, "word", "leak", plain, tank())
        self.refuse(BadFaults, "word", "leak", tank(), Machine(0, TANK_STEPS, {"leak": "crack"}))

    def test_the_least_common_word_counts(self):
        one = Machine(0, TANK_STEPS, {"leak": "hole", "fill": "flood"})
        other = Machine(0, TANK_STEPS, {"leak": "crack", "alarm": "hole"})
        self.refuse(BadFaults, "word", "alarm", one, other)
        self.refuse(BadFaults, "word", "fill", one, Machine(0, TANK_STEPS, {"leak": "crack"}))

    def test_common_words_of_unreached_steps_count(self):
        one = Machine(0, [(0, "a", 0), (1, "b", 1)], {"b": "hole"})
        other = Machine(0, [(0, "c", 0), (1, "b", 1)])
        self.refuse(BadFaults, "word", "b", one, other)

    def test_faults_ahead_of_pairs(self):
        one = Machine(0, ring(11).steps + [(11, "z", 0)], {"z": "hole"})
        other = Machine(0, ring(11, "on").steps + [(11, "z", 0)])
        self.refuse(BadFaults, "word", "z", one, other)
        self.refuse(TooMany, "limit", 100, Machine(0, one.steps), other)

    def test_more_than_100_pairs(self):
        for size in (11, 12, 40, 80):
            self.refuse(TooMany, "limit", 100, ring(size, "a"), ring(size, "b"))
        self.refuse(TooMany, "limit", 100, ring(80, "a"), ring(2, "b"))

    def test_101_pairs_ahead_of_steps(self):
        # 100 pairs have too many steps; one pair more is a matter of the pairs.
        self.refuse(TooMany, "limit", 80, ring(10, "a"), ring(10, "b"))
        self.refuse(TooMany, "limit", 80, ring(50, "a"), ring(2, "b"))
        self.refuse(TooMany, "limit", 100, ring(34, "a"), ring(3, "b"))

    def test_pairs_of_common_words_alone(self):
        # 9 * 11 pairs are allowed, 8 * 13 are not; each has one step.
        self.assertEqual(ring(7).beside(ring(11)), ring(77))
        self.assertEqual(ring(8).beside(ring(10)), ring(40))
        self.refuse(TooMany, "limit", 80, ring(9), ring(11))
        self.refuse(TooMany, "limit", 100, ring(8), ring(13))

    def test_80_and_81_steps(self):
        self.assertEqual(len(ring(80).beside(ring(16)).steps), 80)
        made = ring(40, "a").beside(fan(["b"]))
        self.assertEqual(len(made.steps), 80)
        more = Machine(0, ring(40, "a").steps + [(0, "c", 0)])
        self.refuse(TooMany, "limit", 80, more, fan(["b"]))

    def test_8_and_9_steps_of_a_pair(self):
        five = [word(at) for at in range(5)]
        three = [word(at) for at in range(5, 8)]
        four = [word(at) for at in range(5, 9)]
        self.assertEqual(len(fan(five).beside(fan(three)).steps), 8)
        self.refuse(TooMany, "limit", 8, fan(five), fan(four))
        one = Machine(0, [(0, "a", 0), (0, "a", 1), (0, "a", 2), (1, "a", 0), (2, "a", 0)])
        self.refuse(TooMany, "limit", 8, one, one)

    def test_too_many_steps_of_a_later_pair(self):
        one = Machine(0, [(0, "go", 1)] + [(1, word(at), 1) for at in range(5)])
        self.refuse(TooMany, "limit", 8, one, fan([word(at) for at in range(5, 9)]))

    def test_pairs_ahead_of_steps_of_a_pair(self):
        one = Machine(0, [(0, word(at), at % 2) for at in range(8)] + [(1, word(0), 0)])
        other = ring(51, "tick")
        self.refuse(TooMany, "limit", 100, one, other)
        self.refuse(TooMany, "limit", 8, one, ring(50, "tick"))

    def test_steps_of_a_pair_ahead_of_all_steps(self):
        one = Machine(0, ring(40, "a").steps + [(20, word(at), 20) for at in range(7)])
        self.refuse(TooMany, "limit", 8, one, fan(["b"]))
        less = Machine(0, ring(40, "a").steps + [(20, word(at), 20) for at in range(6)])
        self.refuse(TooMany, "limit", 80, less, fan(["b"]))

    def chain(self, words):
        """A ring that does all of the words, one behind the other."""
        return Machine(0, [(at, each, (at + 1) % len(words)) for at, each in enumerate(words)])

    def test_14_and_15_words(self):
        words = [word(at) for at in range(15)]
        self.assertEqual(len(self.chain(words[:7]).beside(fan(words[7:12])).words), 12)
        self.assertEqual(len(self.chain(words[:12]).beside(fan(words[12:14])).words), 14)
        self.refuse(TooMany, "limit", 14, self.chain(words[:12]), fan(words[12:15]))
        self.refuse(TooMany, "limit", 14, self.chain(words[:14]), fan(words[14:]))

    def test_words_that_are_not_done_do_not_count(self):
        words = [word(at) for at in range(15)]
        one = self.chain(words[:13])
        other = Machine(0, [(0, words[13], 0), (1, words[14], 0)])
        self.assertEqual(len(one.beside(other).words), 14)

    def test_steps_ahead_of_words(self):
        words = [word(at) for at in range(20)]
        self.refuse(TooMany, "limit", 80, self.chain(words[:14]), fan(words[14:20]))
        self.refuse(TooMany, "limit", 14, self.chain(words[:10]), fan(words[10:15]))

    def with_faults(self, machine, names):
        return Machine(machine.start, machine.steps, dict(zip(machine.words, names)))

    def test_3_and_4_names_of_faults(self):
        one = self.with_faults(fan(["a", "b"]), ["hole", "crack"])
        self.assertEqual(one.beside(self.with_faults(fan(["c"]), ["end"])).fault_names, ["crack", "end", "hole"])
        self.assertEqual(one.beside(self.with_faults(fan(["c", "d"]), ["end", "hole"])).fault_names,
                         ["crack", "end", "hole"])
        self.refuse(TooMany, "limit", 3, one, self.with_faults(fan(["c", "d"]), ["end", "out"]))

    def test_names_of_words_that_are_not_done_do_not_count(self):
        one = self.with_faults(fan(["a", "b"]), ["hole", "crack"])
        other = Machine(0, [(0, "c", 0), (1, "d", 0)], {"c": "end", "d": "out"})
        self.assertEqual(one.beside(other).fault_names, ["crack", "end", "hole"])

    def test_words_ahead_of_names_of_faults(self):
        words = [word(at) for at in range(15)]
        one = self.with_faults(self.chain(words[:11]), ["a", "b"])
        self.refuse(TooMany, "limit", 14, one, self.with_faults(fan(words[11:15]), ["c", "d"]))
        self.refuse(TooMany, "limit", 3, one, self.with_faults(fan(words[11:14]), ["c", "d"]))

    def test_pairs_that_no_step_leaves(self):
        one = Machine(0, [(0, "a", 1), (1, "b", 0)])
        other = Machine(0, [(0, "a", 1), (1, "a", 0), (1, "c", 1), (2, "b", 0)])
        self.assertEqual(one.beside(other).steps, [(0, "a", 1), (1, "c", 1)])
        stuck = Machine(0, [(0, "a", 1), (1, "a", 0), (2, "b", 0)])
        self.refuse(NotLive, "state", 1, one, stuck)

    def test_the_first_pair_without_steps(self):
        # There are no steps at all then, which is still no matter of the steps.
        one = Machine(0, [(0, "a", 1), (1, "b", 0)])
        self.refuse(NotLive, "state", 0, one, Machine(1, one.steps))

    def test_the_least_pair_without_steps(self):
        one = Machine(0, [(0, "a", 1), (0, "b", 2), (0, "c", 3), (1, "a", 0), (2, "b", 0), (3, "c", 0)])
        other = Machine(0, [(0, "a", 1), (0, "b", 2), (0, "c", 3), (1, "a", 1), (2, "c", 0), (3, "b", 0)])
        self.refuse(NotLive, "state", 2, one, other)

    def test_names_of_faults_ahead_of_pairs_without_steps(self):
        one = Machine(0, [(0, "a", 1), (0, "b", 0), (1, "z", 0)], {"a": "e", "b": "f"})
        other = Machine(0, [(0, "a", 1), (0, "c", 0), (0, "d", 0), (1, "y", 0), (2, "z", 0)],
                        {"a": "e", "c": "g", "d": "h"})
        self.refuse(TooMany, "limit", 3, one, other)
        stuck = Machine(0, [(0, "a", 1), (0, "c", 0), (1, "b", 0), (2, "z", 0)], {"a": "e", "b": "f", "c": "g"})
        self.refuse(NotLive, "state", 1, one, stuck)

    def test_nothing_has_changed(self):
        one, other = tank(), Machine(0, TANK_STEPS)
        with self.assertRaises(KnowError):
            one.beside(other)
        self.assertEqual([one, other], [tank(), Machine(0, TANK_STEPS)])


def by_the_words(one, other):
    """What points [11] and [12] say, written down once more in another way."""
    common = sorted(set(one.words) & set(other.words))
    for each in common:
        if (each in one.faults or each in other.faults) and one.faults.get(each) != other.faults.get(each):
            return ("BadFaults", each)
    pairs = [(one.start, other.start)]
    steps = []
    for pair in pairs:
        found = []
        for source, name, target in one.steps:
            for there, again, entered in other.steps:
                if (source, there) == pair and name == again:
                    found.append((name, (target, entered)))
        found += [(name, (target, pair[1])) for source, name, target in one.steps
                  if source == pair[0] and name not in common]
        found += [(name, (pair[0], target)) for source, name, target in other.steps
                  if source == pair[1] and name not in common]
        for name, entered in found:
            if entered not in pairs:
                pairs.append(entered)
            steps.append((pairs.index(pair), name, pairs.index(entered)))
    words = {name for _, name, _ in steps}
    faults = {name: {**one.faults, **other.faults}[name] for name in words if name in {**one.faults, **other.faults}}
    leaving = [sum(step[0] == at for step in steps) for at in range(len(pairs))]
    for many, limit in ((len(pairs), 100), (max(leaving), 8), (len(steps), 80), (len(words), 14),
                        (len(set(faults.values())), 3)):
        if many > limit:
            return ("TooMany", limit)
    if 0 in leaving:
        return ("NotLive", leaving.index(0))
    return (0, steps, faults)


def outcome(one, other):
    try:
        made = one.beside(other)
    except KnowError as error:
        return (error.__class__.__name__,) + tuple(vars(error).values())
    return (made.start, made.steps, made.faults)


def random_machine(source, words):
    while True:
        size = source.randint(1, 5)
        many = source.randint(1, 14)
        steps = [(source.randrange(size), source.choice(words), source.randrange(size)) for _ in range(many)]
        faults = {each: source.choice(["hole", "crack", "end", "out"]) for each in words if source.random() < 0.15}
        try:
            made = Machine(source.randrange(size), list(dict.fromkeys(steps)), None)
            return Machine(made.start, made.steps, {each: faults[each] for each in faults if each in made.words})
        except KnowError:
            continue


class ManyMachines(unittest.TestCase):
    def test_many_machines(self):
        source = random.Random(11)
        seen = {}
        for _ in range(1500):
            letters = "abcdefghijklmnopq"[:source.randint(2, 17)]
            one, other = random_machine(source, letters), random_machine(source, letters)
            expected = by_the_words(one, other)
            self.assertEqual(outcome(one, other), expected)
            seen[expected[:2] if expected[0] == "TooMany" else expected[0]] = True
        for kind in (0, "BadFaults", "NotLive", ("TooMany", 8)):
            self.assertIn(kind, seen)


if __name__ == "__main__":
    unittest.main()
