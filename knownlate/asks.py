"""Asking probes which faults were done: how many asks are needed, and what shows it (points [61] to [66])."""

from knownlate.checks import check_count
from knownlate.errors import BadProbes, BadRows
from knownlate.limits import MOST_ASKS, MOST_CANDIDATES, MOST_FAULTS, MOST_PROBED, MOST_PROBES
from knownlate.values import is_ascending, is_name, is_row, is_state, is_whole

# More than any number of asks that is of use, so that it stands for a set that no asks settle.
NEVER = 1000


class Asks:
    """Sets of candidates, and the sets that answers leave of them.

    A set is an integer: the bit of the value 2 ** k stands for the candidate at the index k of the ascending
    list `candidates`. `yes` is the dict from the names of the probes, ascending, to the sets that they answer yes for.
    """

    def __init__(self, rows, probes):
        self.candidates = sorted(list(rows))
        self.places = {candidate: place for place, candidate in enumerate(self.candidates)}
        self.whole = (1 << len(self.candidates)) - 1
        self.yes = {name: self.set_of([candidate for candidate in self.candidates if candidate[0] in probes[name]])
                    for name in sorted(list(probes))}
        self.needs = {}

    def set_of(self, candidates):
        """The set of these candidates."""
        found = 0
        for candidate in candidates:
            found = found | (1 << self.places[candidate])
        return found

    def candidates_in(self, chosen):
        """The ascending tuple of the candidates of a set."""
        return tuple([candidate for place, candidate in enumerate(self.candidates) if (chosen & (1 << place)) != 0])

    def is_settled(self, chosen):
        """Whether all candidates of a set have the same faults."""
        return len({faults for state, faults in self.candidates_in(chosen)}) <= 1

    def parts_by(self, name, chosen):
        """The two parts of a set for which a probe answers yes and no."""
        return chosen & self.yes[name], chosen & ~self.yes[name]

    def need(self, chosen):
        """How many asks are needed in every case to settle a set; NEVER if no number is enough."""
        if chosen not in self.needs:
            self.needs[chosen] = 0 if self.is_settled(chosen) else self.least_need(chosen)
        return self.needs[chosen]

    def least_need(self, chosen):
        """The same for a set that is not settled."""
        least = NEVER
        for name in self.parting(chosen):
            least = min(least, self.need_behind(name, chosen) + 1)
        return least

    def parting(self, chosen):
        """The list of the names of the probes that part a set; the other ones are of no use for it."""
        return [name for name in self.yes if (chosen & self.yes[name]) not in (0, chosen)]

    def need_behind(self, name, chosen):
        """How many asks are still needed in every case behind the answer of a probe."""
        part, other = self.parts_by(name, chosen)
        return max(self.need(part), self.need(other))

    def tree_for(self, chosen):
        """A tree with the least depth for a set that some number of asks settles."""
        if self.is_settled(chosen):
            return ()
        best = [name for name in self.yes if self.need_behind(name, chosen) < self.need(chosen)]
        part, other = self.parts_by(best[0], chosen)
        return best[0], self.tree_for(part), self.tree_for(other)

    def is_tree_for(self, chosen, most, thing):
        """Whether any object is a tree for a set, with a depth of at most `most`."""
        if not isinstance(thing, tuple) or len(thing) not in (0, 3):
            return False
        if len(thing) == 0:
            return self.is_settled(chosen)
        name, left, right = thing
        if most == 0 or not is_name(name) or name not in self.yes:
            return False
        part, other = self.parts_by(name, chosen)
        return self.is_tree_for(part, most - 1, left) and self.is_tree_for(other, most - 1, right)


def needed(rows, probes):
    """The least number of asks that settle all candidates in every case, or None if there is none."""
    check_rows(rows)
    check_probes(probes)
    asks = Asks(rows, probes)
    need = asks.need(asks.whole)
    return None if need >= NEVER else need


def tree(rows, probes):
    """A tree for all candidates with the least depth, or None if no number of asks is enough."""
    check_rows(rows)
    check_probes(probes)
    asks = Asks(rows, probes)
    return None if asks.need(asks.whole) >= NEVER else asks.tree_for(asks.whole)


def is_tree(rows, probes, most, thing):
    """Whether any object is a tree for all candidates, with a depth of at most `most`."""
    check_rows(rows)
    check_probes(probes)
    check_count(most, MOST_ASKS)
    asks = Asks(rows, probes)
    return asks.is_tree_for(asks.whole, most, thing)


def answers(rows, probes, many):
    """What shows that so many asks are not enough, or None if they are."""
    check_rows(rows)
    check_probes(probes)
    check_count(many, MOST_ASKS)
    asks = Asks(rows, probes)
    if asks.need(asks.whole) <= many:
        return None
    numbers = {}
    waiting = [(asks.whole, many + 1)]
    while len(waiting) > 0:
        chosen, number = waiting.pop()
        if numbers.get(chosen, 0) < number:
            numbers[chosen] = number
            waiting.extend(harder_parts(asks, chosen, number))
    return [(asks.candidates_in(chosen), numbers[chosen]) for chosen in numbers]


def is_answers(rows, probes, many, thing):
    """Whether any object is a list that shows that so many asks are not enough."""
    check_rows(rows)
    check_probes(probes)
    check_count(many, MOST_ASKS)
    asks = Asks(rows, probes)
    if not isinstance(thing, list) or not all([is_item(asks, item) for item in thing]):
        return False
    numbers = {}
    for candidates, number in thing:
        chosen = asks.set_of(candidates)
        numbers[chosen] = max(number, numbers.get(chosen, 0))
    for chosen, number in numbers.items():
        for name in asks.yes:
            part, other = asks.parts_by(name, chosen)
            if number >= 2 and max(numbers.get(part, 0), numbers.get(other, 0)) < number - 1:
                return False
    return numbers.get(asks.whole, 0) > many


def twins(rows, probes):
    """The first two candidates with unlike faults for which all probes give the same answers, or None."""
    check_rows(rows)
    check_probes(probes)
    for at, first in enumerate(rows):
        for second in rows[at + 1:]:
            same = [(first[0] in states) == (second[0] in states) for states in list(probes.values())]
            if first[1] != second[1] and all(same):
                return first, second
    return None


def check_rows(rows):
    """Raises BadRows if the argument is not a row of 1 to 10 different candidates."""
    if not is_row(rows) or not 1 <= len(rows) <= MOST_CANDIDATES:
        raise BadRows(-1)
    seen = {}
    for at, candidate in enumerate(rows):
        if not is_candidate(candidate) or candidate in seen:
            raise BadRows(at)
        seen[candidate] = True


def check_probes(probes):
    """Raises BadProbes if the argument is not a dict from at most 6 names to rows of at most 100 states."""
    if not isinstance(probes, dict) or len(probes) > MOST_PROBES:
        raise BadProbes(None)
    for name, states in probes.items():
        if not is_name(name) or not is_row(states) or len(states) > MOST_PROBED:
            raise BadProbes(name)
        if not all([is_state(state) for state in states]):
            raise BadProbes(name)


def is_candidate(value):
    """Whether any object is a tuple of a state and an ascending tuple of at most 3 different names."""
    if not isinstance(value, tuple) or len(value) != 2:
        return False
    state, faults = value
    if not is_state(state) or not isinstance(faults, tuple) or len(faults) > MOST_FAULTS:
        return False
    return all([is_name(fault) for fault in faults]) and is_ascending(faults)


def is_item(asks, value):
    """Whether any object is a tuple of candidates that are ascending and not settled, and a number from 1 on."""
    if not isinstance(value, tuple) or len(value) != 2:
        return False
    candidates, number = value
    if not is_whole(number) or number < 1 or not isinstance(candidates, tuple):
        return False
    if not all([is_candidate(candidate) and candidate in asks.places for candidate in candidates]):
        return False
    return is_ascending(candidates) and not asks.is_settled(asks.set_of(candidates))


def harder_parts(asks, chosen, number):
    """For each probe that parts a set of this number, a part that shows it, and the number that the part has then.

    The other probes leave all of the set, which stands in the list itself.
    """
    if number == 1:
        return []
    found = []
    for name in asks.parting(chosen):
        part, other = asks.parts_by(name, chosen)
        found.append((part if asks.need(part) >= number - 1 else other, number - 1))
    return found
