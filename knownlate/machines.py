"""Machines: their steps, states and faults (points [8] to [13])."""

from knownlate.errors import BadFaults, BadState, BadSteps, NotLive, TooMany
from knownlate.limits import MOST_FAULTS, MOST_LEAVING, MOST_STEPS, MOST_WORDS
from knownlate.pairs import check_live, numbered_moves, steps_of_moves
from knownlate.values import is_name, is_row, is_state


class Machine:
    """A finite machine that runs for ever; some of its words may be faults. It never changes."""

    def __init__(self, start, steps, faults=None):
        if not is_state(start):
            raise BadState(start)
        check_steps(steps)
        words = sorted({step[1] for step in steps})
        if len(words) > MOST_WORDS:
            raise TooMany(MOST_WORDS)
        check_faults(faults, words)
        leaving = moves_by_state(steps)
        states = reached_states(start, leaving)
        for state in states:
            if state not in leaving:
                raise NotLive(state)
        self._start = start
        self._steps = list(steps)
        self._words = words
        self._faults = {} if faults is None else {word: faults[word] for word in words if word in faults}
        self._states = states

    def __eq__(self, other):
        return (isinstance(other, Machine) and self._start == other._start
                and self._steps == other._steps and self._faults == other._faults)

    @property
    def start(self):
        """The state in which each run begins."""
        return self._start

    @property
    def steps(self):
        """The list of all steps in the order of their numbers."""
        return list(self._steps)

    @property
    def words(self):
        """The ascending list of the words of all steps."""
        return list(self._words)

    @property
    def fault_names(self):
        """The ascending list of the names of the faults."""
        return sorted(set(list(self._faults.values())))

    @property
    def faults(self):
        """The dict from the words of faults, in ascending order, to the names of the faults."""
        return dict(self._faults)

    @property
    def states(self):
        """The ascending list of the reached states."""
        return list(self._states)

    def beside(self, other):
        """The machine that is made of this one and the other; they do their common words at once."""
        if not isinstance(other, Machine):
            raise BadState(other)
        common = [word for word in self._words if word in other._words]
        check_common_faults(common, self._faults, other._faults)
        mine = moves_by_state(self._steps)
        theirs = moves_by_state(other._steps)
        rows = numbered_moves((self._start, other._start), lambda pair: moves_of_pair(pair, mine, theirs, common))
        steps = steps_of_moves(rows)
        faults = faults_of_steps(steps, {**self._faults, **other._faults})
        if len(set(list(faults.values()))) > MOST_FAULTS:
            raise TooMany(MOST_FAULTS)
        # Machine would report this too, but not if there are no steps at all.
        check_live(rows)
        return Machine(0, steps, faults)

    def renumbered(self, order):
        """The machine with other numbers of its states; the order maps each reached state to its new number."""
        if not is_order(order, self._states):
            raise BadState(order)
        steps = [(order[source], word, order[target]) for source, word, target in self._steps if source in order]
        return Machine(order[self._start], steps, faults_of_steps(steps, self._faults))


def is_step(value):
    """Whether any object is a tuple of a state, a name and a state."""
    if not isinstance(value, tuple) or len(value) != 3:
        return False
    return is_state(value[0]) and is_name(value[1]) and is_state(value[2])


def check_steps(steps):
    """Raises BadSteps if the steps cannot be those of a machine."""
    if not is_row(steps) or not 1 <= len(steps) <= MOST_STEPS:
        raise BadSteps(-1)
    seen = {}
    counts = {}
    for at, step in enumerate(steps):
        if not is_step(step) or step in seen:
            raise BadSteps(at)
        seen[step] = True
        counts[step[0]] = counts.get(step[0], 0) + 1
        if counts[step[0]] > MOST_LEAVING:
            raise BadSteps(at)


def check_faults(faults, words):
    """Raises BadFaults if the faults are not those of a machine with these words."""
    if faults is None:
        return
    if not isinstance(faults, dict):
        raise BadFaults(None)
    names = {}
    for word, name in faults.items():
        if not is_name(word) or word not in words or not is_name(name):
            raise BadFaults(word)
        names[name] = True
        if len(names) > MOST_FAULTS:
            raise BadFaults(word)


def check_common_faults(common, one, other):
    """Raises BadFaults for the first common word that is not the same fault, or no fault, in both dicts."""
    for word in common:
        if one.get(word) != other.get(word):
            raise BadFaults(word)


def moves_by_state(steps):
    """The dict from the states that steps leave to the lists of the moves (word, state entered), in order."""
    moves = {}
    for source, word, target in steps:
        moves.setdefault(source, []).append((word, target))
    return moves


def reached_states(start, leaving):
    """The ascending list of the states to which moves lead from the start."""
    reached = {start: True}
    waiting = [start]
    while len(waiting) > 0:
        moves = leaving.get(waiting.pop(), [])
        for word, target in moves:
            if target not in reached:
                reached[target] = True
                waiting.append(target)
    return sorted(list(reached))


def moves_of_pair(pair, mine, theirs, common):
    """The moves (word, pair entered) of a pair of states of two machines, in the order of point [11]."""
    here, there = pair
    both = [(word, (target, entered)) for word, target in mine[here] if word in common
            for shared, entered in theirs[there] if shared == word]
    first_alone = [(word, (target, there)) for word, target in mine[here] if word not in common]
    second_alone = [(word, (here, target)) for word, target in theirs[there] if word not in common]
    return both + first_alone + second_alone


def faults_of_steps(steps, faults):
    """The part of the faults whose words are words of the steps."""
    return {word: faults[word] for source, word, target in steps if word in faults}


def is_order(value, states):
    """Whether any object is a dict from just these states to different states."""
    if not isinstance(value, dict):
        return False
    numbers = list(value.values())
    if not all([is_state(state) for state in list(value) + numbers]):
        return False
    return sorted(list(value)) == states and len(set(numbers)) == len(numbers)
