"""How the pairs (state, names of the faults done) spread along the sights of a watch (points [25] to [32])."""


class Spread:
    """Sets of pairs (state, faults), and the sets that come of them by sights.

    A pair is a reached state and an ascending tuple of some of the names that are looked at; other faults
    count as no faults here. A set of pairs is an integer, so that it is quickly made and compared: the bit of
    the value 2 ** k stands for the pair at the index k of the ascending list `pairs`.
    """

    def __init__(self, machine, watch, names):
        self.pairs = sorted([(state, done) for state in machine.states for done in parts(names)])
        self.places = {pair: place for place, pair in enumerate(self.pairs)}
        unseen, seen = moves_of_pairs(machine, watch, self.pairs, names)
        closed = [self.closure(pair, unseen) for pair in self.pairs]
        self.first = closed[self.places[(machine.start, ())]]
        self.entered = []
        for pair in self.pairs:
            row = {}
            for sight, target in seen[pair]:
                row[sight] = row.get(sight, 0) | closed[self.places[target]]
            self.entered.append(row)

    def closure(self, pair, unseen):
        """The set of the pair and of all pairs to which unseen steps lead from it."""
        found = 1 << self.places[pair]
        waiting = [pair]
        while len(waiting) > 0:
            for target in unseen[waiting.pop()]:
                bit = 1 << self.places[target]
                if (found & bit) == 0:
                    found = found | bit
                    waiting.append(target)
        return found

    def beyond(self, chosen):
        """The dict from the sights of steps that leave the set, ascending, to the sets that come of it by them."""
        found = {}
        for place in places_in(chosen):
            for sight, entered in self.entered[place].items():
                found[sight] = found.get(sight, 0) | entered
        return {sight: found[sight] for sight in sorted(list(found))}

    def leading_into(self, wanted):
        """The set of the pairs from which some sight leads to a pair that is wanted."""
        found = 0
        for place, row in enumerate(self.entered):
            if any([(entered & wanted) != 0 for entered in list(row.values())]):
                found = found | (1 << place)
        return found

    def pairs_in(self, chosen):
        """The ascending list of the pairs of a set."""
        return [self.pairs[place] for place in places_in(chosen)]

    def set_of(self, pairs):
        """The set of these pairs."""
        found = 0
        for pair in pairs:
            found = found | (1 << self.places[pair])
        return found


def places_in(chosen):
    """The ascending list of the places of the pairs of a set."""
    found = []
    left = chosen
    while left > 0:
        found.append((left & -left).bit_length() - 1)
        left = left & (left - 1)
    return found


def parts(names):
    """All tuples of some of the names, each in the order of the names."""
    found = [()]
    for name in names:
        found = found + [done + (name,) for done in found]
    return found


def moves_of_pairs(machine, watch, pairs, names):
    """Two dicts from all pairs: to the pairs entered by unseen steps, and to the (sight, pair) of the seen ones."""
    unseen = {pair: [] for pair in pairs}
    seen = {pair: [] for pair in pairs}
    faults = machine.faults
    steps = machine.steps
    for state, done in pairs:
        for source, word, target in steps:
            if source != state:
                continue
            entered = (target, with_fault(done, faults.get(word), names))
            if word in watch:
                seen[(state, done)].append((watch[word], entered))
            else:
                unseen[(state, done)].append(entered)
    return unseen, seen


def with_fault(done, fault, names):
    """The ascending tuple of the faults done and this one, if it is one of the names that are looked at."""
    if fault not in names or fault in done:
        return done
    return tuple(sorted(list(done) + [fault]))
