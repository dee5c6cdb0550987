"""Points [42] and [43]: machines and watches with lost sights."""

import random
import unittest

from knownlate.errors import BadCount, BadWatch, BadWord, KnowError, TooMany
from knownlate.late import late
from knownlate.losses import with_losses
from knownlate.machines import Machine
from knownlate.watches import Watch, all_seen, seeing
from tests import naive
from tests.cases import Case
from tests.samples import clock, fan, no_counts, no_watches, ring, tank, word


def slow_losses(machine, watch, most):
    """Points [42] and [43] as they stand there: the error, or the steps, faults and sights of what is made."""
    for each in machine.words:
        lost = "lost" + each
        if most > 0 and each in watch and (len(lost) > 12 or lost in machine.words):
            return BadWord(each)
    numbers = {(machine.start, 0): 0}
    steps, faults = [], {}
    for state, lost in slow_pairs(machine, watch, most):
        for source, each, target in machine.steps:
            if source != state:
                continue
            made = [(each, (target, lost))]
            if each in watch and lost < most:
                made.append(("lost" + each, (target, lost + 1)))
            for name, pair in made:
                numbers.setdefault(pair, len(numbers))
                steps.append((numbers[(state, lost)], name, numbers[pair]))
                if each in machine.faults:
                    faults[name] = machine.faults[each]
    leaving = [source for source, _, _ in steps]
    if len(numbers) > 100:
        return TooMany(100)
    if max(leaving.count(number) for number in numbers.values()) > 8:
        return TooMany(8)
    if len(steps) > 80:
        return TooMany(80)
    if len({name for _, name, _ in steps}) > 14:
        return TooMany(14)
    return steps, faults, {each: watch[each] for each in machine.words if each in watch}


def slow_pairs(machine, watch, most):
    """The reached pairs in the order of their numbers."""
    pairs = [(machine.start, 0)]
    for state, lost in pairs:
        for source, each, target in machine.steps:
            if source == state:
                both = [(target, lost), (target, lost + 1)] if each in watch and lost < most else [(target, lost)]
                pairs.extend(pair for pair in both if pair not in pairs)
    return pairs


class LossesCase(Case):
    def check(self, machine, watch, most):
        expected = slow_losses(machine, watch, most)
        if isinstance(expected, KnowError):
            (name, value), = vars(expected).items()
            self.refuse(expected.__class__, name, value, with_losses, machine, watch, most)
            return expected.__class__, value if expected.__class__ is TooMany else None
        steps, faults, sights = expected
        found = with_losses(machine, watch, most)
        self.assertEqual([found.__class__, len(found)], [tuple, 2])
        self.assertEqual([found[0].__class__, found[1].__class__], [Machine, Watch])
        self.assertEqual([found[0].start, found[0].steps, found[0].faults], [0, steps, faults])
        self.assertEqual(found[0], Machine(0, steps, faults))
        self.assertEqual(found[1], Watch(sights))
        return None


class WithLosses(LossesCase):
    def test_the_example(self):
        made, watch = with_losses(clock(), seeing(["tick"]), 1)
        self.assertEqual([made.steps, watch.words],
                         [[(0, "tick", 0), (0, "losttick", 1), (1, "tick", 1)], ["tick"]])

    def test_the_tank(self):
        made, watch = with_losses(tank(), Watch({"fill": "x", "leak": "y"}), 1)
        self.assertEqual(made.steps, [
            (0, "fill", 1), (0, "lostfill", 2), (0, "leak", 3), (0, "lostleak", 4), (1, "drip", 0), (2, "drip", 5),
            (3, "fill", 6), (3, "lostfill", 7), (4, "fill", 7), (5, "fill", 2), (5, "leak", 4), (6, "alarm", 6),
            (7, "alarm", 7)])
        self.assertEqual(made.faults, {"leak": "hole", "lostleak": "hole"})
        self.assertEqual(watch, Watch({"fill": "x", "leak": "y"}))

    def test_no_losses(self):
        made, watch = with_losses(tank().renumbered({0: 9, 1: 8, 2: 7, 3: 6}), all_seen(tank()), 0)
        self.assertEqual([made, watch], [tank(), all_seen(tank())])
        for most in range(4):
            self.assertEqual(with_losses(tank(), Watch(), most), (tank(), Watch()))

    def test_no_losses_and_words_that_begin_with_lost(self):
        made = Machine(3, [(3, "bad", 3), (3, "lostbad", 3)], {"bad": "hole"})
        found = with_losses(made, seeing(["bad"]), 0)
        self.assertEqual(found, (Machine(0, [(0, "bad", 0), (0, "lostbad", 0)], {"bad": "hole"}), seeing(["bad"])))
        self.refuse(BadWord, "value", "bad", with_losses, made, seeing(["bad"]), 1)

    def test_steps_that_no_run_does(self):
        made = Machine(0, [(0, "a", 0), (1, "b", 1), (1, "c", 0)], {"b": "far"})
        found, watch = with_losses(made, Watch({"a": "x", "b": "y", "q": "z"}), 1)
        self.assertEqual([found.steps, found.faults], [[(0, "a", 0), (0, "losta", 1), (1, "a", 1)], {}])
        self.assertEqual(watch, Watch({"a": "x", "b": "y"}))

    def test_lost_faults_are_the_same_faults(self):
        made = Machine(0, [(0, "a", 0), (0, "b", 0), (0, "c", 0)], {"a": "one", "b": "two", "c": "one"})
        found, _ = with_losses(made, seeing(["a", "b"]), 2)
        self.assertEqual(found.faults, {"a": "one", "b": "two", "c": "one", "losta": "one", "lostb": "two"})

    def test_how_late_a_fault_is_known_with_losses(self):
        self.assertEqual(late(tank(), [all_seen(tank())], "hole"), 2)
        for most in range(4):
            made, watch = with_losses(tank(), seeing(["alarm"]), most)
            self.assertEqual(late(made, [watch], "hole"), 2 + most)

    def test_many_machines(self):
        source = random.Random(21)
        seen = {}
        for _ in range(600):
            made = naive.random_machine(source, source.choice((4, 12)), source.choice((9, 40)))
            watch = naive.random_watch(source, made, "pq")
            found = self.check(made, watch, source.randrange(4))
            seen[found] = seen.get(found, 0) + 1
        self.assertGreater(seen[None], 200)
        self.assertLessEqual({(TooMany, 8), (TooMany, 80)}, set(seen))

    def test_arguments_and_answers(self):
        made, watch = tank(), seeing(["fill"])
        found = with_losses(made, watch, 2)
        again = with_losses(made, watch, 2)
        self.assertEqual(found, again)
        found[1]["fill"] = None
        found[0].steps.clear()
        watch["drip"] = "x"
        self.assertEqual(again, with_losses(tank(), seeing(["fill"]), 2))
        self.assertEqual([made, again[1]], [tank(), seeing(["fill"])])


class Limits(LossesCase):
    def test_100_pairs(self):
        # Around a ring whose words are all seen, each state is reached with each count of losses. (With just 100
        # pairs there are 100 steps and more, so these are too many then.)
        for size, most in ((25, 3), (33, 2), (50, 1), (26, 3), (34, 2), (51, 1)):
            found = self.check(ring(size), seeing(["go"]), most)
            expected = 100 if size * (most + 1) > 100 else 80
            self.assertEqual(found, (TooMany, expected))

    def test_100_pairs_ahead_of_the_other_limits(self):
        # Fourteen seen words, eight of them leave the start; there are more than 100 pairs and 80 steps, too.
        steps = [(0, word(at), 1) for at in range(8)]
        steps += [(at, word(8 + at % 6), at % 40 + 1) for at in range(1, 41)]
        made = Machine(0, steps)
        self.assertEqual(self.check(made, seeing(made.words), 3), (TooMany, 100))
        self.assertEqual(self.check(made, seeing(made.words), 1), (TooMany, 8))

    def test_99_and_101_pairs(self):
        # One seen step, and a row of unseen ones behind it: the start, and all later states with 0 and 1 losses.
        for many, expected in ((49, 80), (50, 100)):
            steps = [(0, "see", 1)] + [(at, "go", at + 1) for at in range(1, many)] + [(many, "go", many)]
            made = Machine(0, steps)
            self.assertEqual(len(slow_pairs(made, seeing(["see"]), 1)), 1 + 2 * many)
            self.assertEqual(self.check(made, seeing(["see"]), 1), (TooMany, expected))

    def test_eight_steps_of_a_pair(self):
        for unseen, expected in ((0, None), (1, (TooMany, 8))):
            made = fan([word(at) for at in range(4 + unseen)])
            self.assertEqual(self.check(made, seeing(made.words[:4]), 1), expected)
        made = fan([word(at) for at in range(5)])
        self.assertEqual(self.check(made, seeing(made.words), 1), (TooMany, 8))
        self.assertIsNone(self.check(made, seeing(made.words[:3]), 3))

    def test_eighty_steps(self):
        for size, expected in ((26, None), (27, (TooMany, 80))):
            # One loss: two steps leave each pair without it and one step leaves each pair with it.
            self.assertEqual(self.check(ring(size), seeing(["go"]), 1), expected)
        # 78 steps by the ring, and two more by an unseen step that leaves a state.
        made = Machine(0, ring(26).steps + [(0, "u", 0)])
        self.assertEqual(len(with_losses(made, seeing(["go"]), 1)[0].steps), 80)
        made = Machine(0, ring(26).steps + [(0, "u", 0), (1, "u", 1)])
        self.assertEqual(self.check(made, seeing(["go"]), 1), (TooMany, 80))

    def test_fourteen_words(self):
        for many, expected in ((7, None), (8, (TooMany, 14))):
            steps = [(at, word(at), (at + 1) % many) for at in range(many)]
            made = Machine(0, steps)
            self.assertEqual(self.check(made, seeing(made.words), 1), expected)
            self.assertIsNone(self.check(made, seeing(made.words[:6]), 1))
        # Words of steps that no run does are no words of the new steps.
        steps = [(at, word(at), (at + 1) % 7) for at in range(7)] + [(20, word(at), 20) for at in range(7, 14)]
        self.assertIsNone(self.check(Machine(0, steps), seeing([word(at) for at in range(14)]), 1))


class Errors(LossesCase):
    def test_no_watch(self):
        for value in no_watches():
            self.refuse(BadWatch, "value", value, with_losses, tank(), value, 1)
            self.refuse(BadWatch, "value", value, with_losses, tank(), value, -1)

    def test_counts(self):
        too_long = fan(["abcdefghijkl"])
        for value in no_counts(3):
            self.refuse(BadCount, "value", value, with_losses, tank(), Watch(), value)
            self.refuse(BadCount, "value", value, with_losses, too_long, seeing(too_long.words), value)

    def test_long_words(self):
        for most in (1, 2, 3):
            self.assertIsNone(self.check(fan(["abcdefgh"]), seeing(["abcdefgh"]), most))
            self.refuse(BadWord, "value", "abcdefghi", with_losses, fan(["abcdefghi"]), seeing(["abcdefghi"]), most)
            self.assertIsNone(self.check(fan(["abcdefghi"]), Watch({"other": "abcdefghi"}), most))
        self.assertIsNone(self.check(fan(["abcdefghi"]), seeing(["abcdefghi"]), 0))

    def test_words_that_are_lost_words(self):
        made = fan(["tick", "losttick"])
        self.refuse(BadWord, "value", "tick", with_losses, made, seeing(["tick"]), 1)
        self.refuse(BadWord, "value", "tick", with_losses, made, seeing(["tick", "losttick"]), 3)
        found, _ = with_losses(made, seeing(["losttick"]), 1)
        self.assertEqual(found.words, ["lostlosttick", "losttick", "tick"])
        # A word counts even if no run does it, and one that is lost need not be seen.
        made = Machine(0, [(0, "tick", 0), (1, "losttick", 1)])
        self.refuse(BadWord, "value", "tick", with_losses, made, seeing(["tick"]), 2)
        made = Machine(0, [(0, "a", 0), (1, "abcdefghi", 1)])
        self.refuse(BadWord, "value", "abcdefghi", with_losses, made, seeing(["abcdefghi"]), 2)

    def test_the_least_word(self):
        made = fan(["tick", "losttick", "abcdefghi", "zzzzzzzzz"])
        self.refuse(BadWord, "value", "abcdefghi", with_losses, made, seeing(made.words), 1)
        self.refuse(BadWord, "value", "tick", with_losses, made, seeing(["zzzzzzzzz", "tick"]), 1)
        self.refuse(BadWord, "value", "zzzzzzzzz", with_losses, made, seeing(["zzzzzzzzz"]), 1)

    def test_words_ahead_of_limits(self):
        made = Machine(0, [(0, "abcdefghi", 1)] + [(at, "go", at % 60 + 1) for at in range(1, 61)])
        self.refuse(BadWord, "value", "abcdefghi", with_losses, made, seeing(["go", "abcdefghi"]), 1)
        self.refuse(TooMany, "limit", 100, with_losses, made, seeing(["go"]), 1)

    def test_nothing_has_changed(self):
        made, watch = fan(["tick", "losttick"]), seeing(["tick"])
        for most in (1, 5, None):
            with self.assertRaises(KnowError):
                with_losses(made, watch, most)
        self.assertEqual([made, watch], [fan(["tick", "losttick"]), seeing(["tick"])])


if __name__ == "__main__":
    unittest.main()
