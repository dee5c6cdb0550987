"""Which words must be watched so that faults are known (points [55] to [60])."""

from knownlate.checks import check_count, check_fault
from knownlate.errors import BadCosts, BadWord, NoFault
from knownlate.late import alike_runs, endless, is_alike, is_endless, late
from knownlate.limits import MOST_BEHIND, MOST_CHOSEN, MOST_COST, MOST_COST_OF_SET, MOST_FAULTS
from knownlate.spread import parts
from knownlate.values import is_ascending, is_name, is_row, is_whole
from knownlate.watches import seeing


class Search:
    """Finds out which sets of some words are enough.

    A set that is not enough is made as great as possible before it is kept, since no set inside it is enough either.
    Raises TooMany(5000) if there are too many met tuples for the empty set, which has the most of all sets.
    """

    def __init__(self, machine, names, among, within):
        self.machine = machine
        self.names = sorted(set(names))
        self.among = sorted(set(among))
        self.most = within
        self.good = []
        self.failed = []
        for fault in self.names:
            late(machine, [seeing([])], fault)

    def is_enough(self, chosen):
        """Whether a set is enough."""
        if any([is_part(chosen, failed) for failed, missed in self.failed]):
            return False
        fault = self.failing(chosen)
        if fault is not None:
            self.keep_failed(chosen, fault)
        return fault is None

    def failing(self, chosen):
        """The first fault that is not surely known in time if a set is seen, or None."""
        if any([is_part(good, chosen) for good in self.good]):
            return None
        for fault in self.names:
            if not is_in_time(late(self.machine, [seeing(chosen)], fault), self.most):
                return fault
        self.good.append(chosen)
        return None

    def keep_failed(self, chosen, fault):
        """Keeps a set that is not enough, with a fault that shows it, after all words are added that may be."""
        for word in self.among:
            greater = tuple([each for each in self.among if each in chosen or each == word])
            missed = fault if greater == chosen else self.failing(greater)
            if missed is not None:
                chosen, fault = greater, missed
        self.failed.append((chosen, fault))


def enough(machine, names, words, *, within=None):
    """Whether each of the faults is surely known, and within so many steps, if these words are seen."""
    check_names(machine, names)
    check_chosen(machine, words)
    check_within(within)
    # All numbers are asked for, since each of them may raise TooMany.
    numbers = [late(machine, [seeing(words)], fault) for fault in sorted(set(names))]
    return all([is_in_time(number, within) for number in numbers])


def least_sets(machine, names, among, *, within=None):
    """The list of the sets of words that are enough while no smaller set inside them is; shorter ones first."""
    check_names(machine, names)
    check_chosen(machine, among)
    check_within(within)
    search = Search(machine, names, among, within)
    found = []
    for words in sets_of(among):
        if not any([is_part(least, words) for least in found]) and search.is_enough(words):
            found.append(words)
    return found


def cheapest(machine, names, costs, *, within=None):
    """The least cost of a set of words that is enough, the first such set, and what shows that it is the least."""
    check_names(machine, names)
    check_costs(machine, costs)
    check_within(within)
    search = Search(machine, names, list(costs), within)
    sets = sets_of(list(costs))
    if not search.is_enough(sets[-1]):
        return None
    # Sets of one cost stay in the order of point [56].
    dearer = sorted(sets, key=lambda chosen: cost_of(chosen, costs))
    at = 0
    while not search.is_enough(dearer[at]):
        at += 1
    # All cheaper sets were looked at and were not enough, so each of them is part of a set that was kept.
    against = [(words, fault, paper_for(machine, words, fault, within)) for words, fault in search.failed]
    return cost_of(dearer[at], costs), dearer[at], against


def is_against(machine, names, costs, cost, thing, *, within=None):
    """Whether any object is a list that shows that no set of words that costs less is enough."""
    check_names(machine, names)
    check_costs(machine, costs)
    check_count(cost, MOST_COST_OF_SET)
    check_within(within)
    if not isinstance(thing, list):
        return False
    shown = {}
    for item in thing:
        if not is_disproof(machine, names, costs, item, within):
            return False
        shown[item[0]] = True
    cheaper = [words for words in sets_of(list(costs)) if cost_of(words, costs) < cost]
    return all([any([is_part(words, other) for other in shown]) for words in cheaper])


def check_names(machine, names):
    """Raises NoFault if the argument is not a row of 1 to 3 names of faults of the machine."""
    if not is_row(names) or not 1 <= len(names) <= MOST_FAULTS:
        raise NoFault(names)
    for fault in names:
        check_fault(machine, fault)


def check_chosen(machine, words):
    """Raises BadWord if the argument is not a row of at most 8 words of the machine."""
    if not is_row(words) or len(words) > MOST_CHOSEN:
        raise BadWord(words)
    known = machine.words
    for word in words:
        if not is_name(word) or word not in known:
            raise BadWord(word)


def check_costs(machine, costs):
    """Raises BadCosts if the argument is not a dict from at most 8 words of the machine to their costs."""
    if not isinstance(costs, dict) or len(costs) > MOST_CHOSEN:
        raise BadCosts(None)
    known = machine.words
    for word, cost in costs.items():
        if not is_name(word) or word not in known or not is_whole(cost) or not 1 <= cost <= MOST_COST:
            raise BadCosts(word)


def check_within(within):
    """Raises BadCount if the argument is neither None nor an integer from 0 to 100."""
    if within is not None:
        check_count(within, MOST_BEHIND)


def sets_of(words):
    """All sets of some of the words, as ascending tuples; shorter ones first, those of one length ascending."""
    return sorted(parts(sorted(set(words))), key=lambda chosen: (len(chosen), chosen))


def is_in_time(number, within):
    """Whether a number that `late` returns is not None, and not greater than the bound if there is one."""
    return number is not None and (within is None or number <= within)


def is_part(words, other):
    """Whether each of the words is one of the other ones."""
    return all([word in other for word in words])


def cost_of(words, costs):
    """The sum of the costs of the words."""
    return sum([costs[word] for word in words])


def paper_for(machine, words, fault, within):
    """A paper that shows that the words are not enough for the fault; there is one."""
    if within is None:
        return endless(machine, [seeing(words)], fault)
    return alike_runs(machine, [seeing(words)], fault, within)


def is_paper(machine, words, fault, value, within):
    """Whether any object shows that the words are not enough for the fault."""
    if within is None:
        return is_endless(machine, [seeing(words)], fault, value)
    return is_alike(machine, [seeing(words)], fault, within, value)


def is_disproof(machine, names, costs, value, within):
    """Whether any object is a tuple (words, fault, paper) as in point [58]."""
    if not isinstance(value, tuple) or len(value) != 3:
        return False
    words, fault, paper = value
    if not isinstance(words, tuple) or not all([is_name(word) and word in costs for word in words]):
        return False
    if not is_ascending(words) or not is_name(fault) or fault not in names:
        return False
    return is_paper(machine, words, fault, paper, within)
