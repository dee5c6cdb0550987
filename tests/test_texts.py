"""Points [67] to [69]: the text of a machine, and the machine of a text."""

import random
import re
import unittest

from knownlate.errors import BadFaults, BadSteps, KnowError, NotLive, NotText, TooMany
from knownlate.machines import Machine
from knownlate.texts import machine_text, read_machine
from tests import naive
from tests.cases import Case
from tests.samples import clock, deep_dict, deep_list, deep_tuple, fan, odd_objects, odd_rows, ring, tank, word
from tests.test_late import SMOKE

TANK = "start 0\n0 fill 1\n0 leak 2\n1 drip 0\n2 fill 3\n3 alarm 3\nfault leak hole"
STATE = "(0|[1-9][0-9]?)"
NAME = "([a-z]{1,12})"
CAUSES = {"BadSteps": BadSteps, "TooMany": TooMany, "BadFaults": BadFaults, "NotLive": NotLive}


def slow_read(text):
    """Points [68] and [69] by expressions for the lines: (line, reason) of the error, or the machine."""
    start, steps, faults = None, [], {}
    for number, line in enumerate(text.split("\n"), 1):
        if number == 1:
            found = re.fullmatch(f"start {STATE}", line)
            start = found and int(found[1])
        elif re.fullmatch(f"fault {NAME} {NAME}", line):
            _, key, name = line.split(" ")
            found = not faults or key > max(faults)
            faults[key] = name
        else:
            found = None if faults else re.fullmatch(f"{STATE} {NAME} {STATE}", line)
            if found:
                steps.append((int(found[1]), found[2], int(found[3])))
        if not found:
            return number, ""
    try:
        return Machine(start, steps, faults)
    except KnowError as error:
        return 0, error.__class__.__name__


class TextCase(Case):
    def check(self, text):
        """The answer for any string is the slow one; returns the (line, reason) of the error, or None."""
        expected = slow_read(text)
        if isinstance(expected, Machine):
            found = read_machine(text)
            self.assertEqual([found, found.__class__], [expected, Machine])
            self.assertEqual(machine_text(found), text)
            return None
        with self.assertRaises(NotText) as caught:
            read_machine(text)
        error = caught.exception
        self.assertIs(error.__class__, NotText)
        self.assertEqual([error.line, error.reason], list(expected))
        self.assertEqual([error.line.__class__, error.reason.__class__], [int, str])
        self.assertIs(error.__cause__.__class__, CAUSES.get(error.reason, None.__class__))
        return expected


class Writing(TextCase):
    def test_the_example(self):
        made = Machine(0, [(0, "hum", 0), (0, "snap", 0)], {"snap": "broken"})
        self.assertEqual(machine_text(made), "start 0\n0 hum 0\n0 snap 0\nfault snap broken")
        self.assertEqual(read_machine(machine_text(made)), made)

    def test_some_machines(self):
        self.assertEqual(machine_text(tank()), TANK)
        self.assertEqual(machine_text(clock()), "start 7\n7 tick 7")
        self.assertEqual(machine_text(Machine(99, [(99, "a", 10), (10, "b", 9), (9, "a", 99)])),
                         "start 99\n99 a 10\n10 b 9\n9 a 99")

    def test_faults_are_ascending_and_steps_keep_their_order(self):
        made = Machine(0, [(0, "z", 0), (5, "b", 0), (0, "a", 0)], {"z": "one", "b": "two", "a": "one"})
        self.assertEqual(machine_text(made), "start 0\n0 z 0\n5 b 0\n0 a 0\nfault a one\nfault b two\nfault z one")
        self.assertIsNone(self.check(machine_text(made)))

    def test_words_of_the_text_as_words(self):
        made = Machine(0, [(0, "start", 0), (0, "fault", 0), (0, "lost", 0)],
                       {"start": "fault", "fault": "start", "lost": "lost"})
        text = "start 0\n0 start 0\n0 fault 0\n0 lost 0\nfault fault start\nfault lost lost\nfault start fault"
        self.assertEqual(machine_text(made), text)
        self.assertIsNone(self.check(text))
        self.assertIsNone(self.check("start 0\n0 start 0"))

    def test_many_machines(self):
        source = random.Random(51)
        for _ in range(300):
            made = naive.random_machine(source, source.choice((4, 90)), source.choice((9, 80)))
            again = read_machine(machine_text(made))
            self.assertEqual(again, made)
            self.assertIsNone(self.check(machine_text(made)))
        # A machine with 80 steps, some of states that are not reached.
        steps = [(at, word(at % 14), (at * 7 + 1) % 20) for at in range(80)]
        self.assertIsNone(self.check(machine_text(Machine(0, steps, {word(3): "hole"}))))

    def test_no_faults(self):
        for faults in (None, {}):
            self.assertEqual(machine_text(Machine(0, [(0, "a", 0)], faults)), "start 0\n0 a 0")


class Reading(TextCase):
    def test_the_examples(self):
        self.assertEqual(self.check("start 0\n0 hum 1"), (0, "NotLive"))
        self.assertEqual(self.check("start 0\n0 hum 00"), (2, ""))
        self.assertIsNone(self.check(TANK))

    def test_objects_that_are_no_strings(self):
        for value in odd_objects() + odd_rows() + [None, 0, tank(), TANK.encode(), TANK.split("\n"), deep_list(),
                                                   deep_tuple(), deep_dict()]:
            if isinstance(value, str):
                self.check(value)
                continue
            with self.assertRaises(NotText) as caught:
                read_machine(value)
            self.assertEqual([caught.exception.line, caught.exception.reason], [0, ""])
            self.assertIsNone(caught.exception.__cause__)

    def test_empty_lines(self):
        self.assertEqual(self.check(""), (1, ""))
        self.assertEqual(self.check("\n"), (1, ""))
        self.assertEqual(self.check("\n" + TANK), (1, ""))
        self.assertEqual(self.check(TANK + "\n"), (8, ""))
        self.assertEqual(self.check("start 7\n7 tick 7\n"), (3, ""))
        self.assertEqual(self.check("start 7\n\n7 tick 7"), (2, ""))
        self.assertEqual(self.check("start 7\n"), (2, ""))

    def test_lines_of_the_start(self):
        for line in ("start", "start ", "start  0", " start 0", "start 0 ", "start\t0", "start 00", "start 01",
                     "start 100", "start -1", "start +1", "start 1.0", "start a", "Start 0", "begin 0", "0",
                     "0 hum 0", "fault hum hole", "start 0 0", "start\n0", "start 0\r", "start \u0661", "start \u00b2",
                     "start 1_0", "start 0x1", "\ufeffstart 0", "start 999999999999999999999", "start start"):
            self.assertEqual(self.check(line + "\n0 hum 0"), (1, ""), line)
        for state in range(100):
            self.assertIsNone(self.check(f"start {state}\n{state} hum {state}"))

    def test_lines_of_steps(self):
        for line in ("0 hum", "0 hum ", "0 hum 0 ", " 0 hum 0", "0  hum 0", "0 hum  0", "0 hum 0 0", "00 hum 0",
                     "0 hum 00", "01 hum 0", "0 hum 09", "100 hum 0", "0 hum 100", "-1 hum 0", "0 hum -0", "+0 hum 0",
                     "0 hum +0", "0 Hum 0", "0 hum1 0", "0 abcdefghijklm 0", "0 h\u00fcm 0", "0\thum\t0", "0 hum 0\r",
                     "hum 0 0", "0 0 hum", "0 0 0", "hum", "0", "start 0", "start hum 0", "0 hum \u0660",
                     "0 hum 0\u2028", "0 hum 0\x0b0 hum 0", "0 hum 0\x1c", "fault hum", "fault hum hole x",
                     "fault  hum hole", "fault hum Hole", "fault hum 0", "Fault hum hole", "fault hum  hole",
                     " fault hum hole", "fault hum hole ", "fault abcdefghijklm hole", "fault hum abcdefghijklm"):
            self.assertEqual(self.check("start 0\n0 hum 0\n" + line), (3, ""), line)
            self.assertEqual(self.check("start 0\n" + line + "\n0 hum 0"), (2, ""), line)
            self.assertEqual(self.check("start 0\n0 hum 0\n0 a 0\nfault a hole\n" + line), (5, ""), line)
        self.assertIsNone(self.check("start 0\n0 abcdefghijkl 0\nfault abcdefghijkl abcdefghijkl"))

    def test_lines_at_a_wrong_place(self):
        for text, line in (("start 0\nstart 0\n0 hum 0", 2), ("start 0\n0 hum 0\nfault hum hole\n0 a 0", 4),
                           ("start 0\nfault hum hole\n0 hum 0", 3), ("fault hum hole\nstart 0\n0 hum 0", 1),
                           ("0 hum 0\nstart 0", 1), ("start 0\n0 hum 0\nstart 0", 3)):
            self.assertEqual(self.check(text), (line, ""))

    def test_words_of_faults_ascend(self):
        head = "start 0\n0 a 0\n0 b 0\n0 ab 0\n"
        self.assertIsNone(self.check(head + "fault a one\nfault ab one\nfault b two"))
        self.assertEqual(self.check(head + "fault a one\nfault b one\nfault ab two"), (7, ""))
        self.assertEqual(self.check(head + "fault a one\nfault a one"), (6, ""))
        self.assertEqual(self.check(head + "fault a one\nfault a two"), (6, ""))
        self.assertEqual(self.check(head + "fault b one\nfault a one"), (6, ""))
        # A word that is no word of a step is wrong only for the machine, and all lines come ahead of the machine.
        self.assertEqual(self.check(head + "fault c one"), (0, "BadFaults"))
        self.assertEqual(self.check(head + "fault c one\nfault b one"), (6, ""))

    def test_the_first_wrong_line(self):
        self.assertEqual(self.check("start 0\n0 hum 0\n0 hum\n0 hum 00\nfault"), (3, ""))
        self.assertEqual(self.check("start 0\n0 hum 1\n0 hum 1\nfault x y\n0 hum 0\nstart"), (5, ""))
        self.assertEqual(self.check("start x\n"), (1, ""))

    def test_lines_that_make_no_machine(self):
        self.assertEqual(self.check("start 0"), (0, "BadSteps"))
        self.assertEqual(self.check("start 0\n0 hum 0\n0 hum 0"), (0, "BadSteps"))
        self.assertEqual(self.check("start 0\nfault hum hole"), (0, "BadSteps"))
        nine = "".join(f"\n0 {word(at)} 0" for at in range(9))
        self.assertEqual(self.check("start 0" + nine), (0, "BadSteps"))
        self.assertIsNone(self.check("start 0" + nine[:nine.rindex("\n")]))
        many = machine_text(ring(80))
        self.assertIsNone(self.check(many))
        self.assertEqual(self.check(many + "\n0 u 0"), (0, "BadSteps"))
        words = "\n".join(f"{at} {word(at)} {at + 1}" for at in range(14))
        self.assertIsNone(self.check(f"start 0\n{words}\n14 {word(0)} 0"))
        self.assertEqual(self.check(f"start 0\n{words}\n14 {word(14)} 0"), (0, "TooMany"))
        self.assertEqual(self.check("start 0\n0 hum 0\nfault snap hole"), (0, "BadFaults"))
        four = "".join(f"\nfault {each} {each}" for each in "abcd")
        self.assertEqual(self.check(machine_text(fan("abcd")) + four), (0, "BadFaults"))
        self.assertIsNone(self.check(machine_text(fan("abcd")) + four.replace("d d", "d a")))
        self.assertEqual(self.check("start 5\n0 hum 0"), (0, "NotLive"))
        self.assertEqual(self.check("start 0\n0 hum 1\nfault snap hole"), (0, "BadFaults"))

    def test_the_causes(self):
        for text, name, value in (("start 5\n0 hum 0", "state", 5), ("start 0\n0 a 0\nfault b c", "word", "b"),
                                  ("start 0\n0 a 0\n0 a 0", "at", 1), ("start 0", "at", -1)):
            with self.assertRaises(NotText) as caught:
                read_machine(text)
            self.assertEqual(getattr(caught.exception.__cause__, name), value)

    def test_long_texts(self):
        self.assertEqual(self.check("start 0" + "\n0 hum 0" * 100000), (0, "BadSteps"))
        self.assertEqual(self.check("start 0" + "\n0 hum 0" * 100000 + "\n"), (100002, ""))
        self.assertEqual(self.check("start " + "0" * 10 ** 6), (1, ""))
        self.assertEqual(self.check(" " * 10 ** 6), (1, ""))
        self.assertEqual(self.check("start 0\n0 hum " + "9" * 10 ** 6), (2, ""))

    def test_many_texts(self):
        source = random.Random(52)
        seen = {}
        for _ in range(4000):
            text = source.choice((TANK, machine_text(SMOKE), "start 0\n0 a 0\n0 b 1\n1 a 1\nfault a one\nfault b two"))
            for _ in range(source.choice((1, 1, 2))):
                at = source.randrange(len(text) + 1)
                size = source.choice((0, 0, 1, 1, 4))
                more = source.choice(("", "", " ", "\n", "0", "1", "9", "a", "z", "\n0 a 0", "\nfault a one", "fault"))
                text = text[:at] + more + text[at + size:]
            found = self.check(text)
            key = found if found is None or found[1] else "line"
            seen[key] = seen.get(key, 0) + 1
        self.assertLessEqual({None, "line", (0, "NotLive"), (0, "BadFaults"), (0, "BadSteps")}, set(seen), seen)


if __name__ == "__main__":
    unittest.main()
