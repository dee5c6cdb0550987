"""What points [22] to [41] say, written down once more in slow and plain ways, and machines to compare by."""

import itertools

from knownlate.errors import KnowError
from knownlate.machines import Machine
from knownlate.watches import Watch

NAMES = ["hole", "crack", "end"]


def random_machine(source, most_states=4, most_steps=9, letters="abcde"):
    """A machine with one to three faults, often with steps that no run does."""
    while True:
        size = source.randint(1, most_states)
        many = source.randint(2, most_steps)
        steps = [(source.randrange(size), source.choice(letters), source.randrange(size)) for _ in range(many)]
        steps = list(dict.fromkeys(steps))
        words = sorted({each for _, each, _ in steps})
        faults = {source.choice(words): source.choice(NAMES) for _ in range(source.randint(1, 3))}
        try:
            return Machine(source.randrange(size), steps, faults)
        except KnowError:
            continue


def random_watch(source, machine, words=""):
    """A watch that sees some words of the machine, several of them by one sight, and words that it does not have."""
    sights = {each: source.choice("xyz") for each in list(machine.words) + list(words) if source.random() < 0.6}
    return Watch(sights)


def all_runs(machine, most):
    """All runs of at most so many steps, shorter ones first."""
    steps = machine.steps
    layer = [((), machine.start)]
    found = [()]
    for _ in range(most):
        layer = [(run + (number,), step[2]) for run, state in layer
                 for number, step in enumerate(steps) if step[0] == state]
        found += [run for run, _ in layer]
    return found


def sights(machine, watch, way):
    return tuple(watch[machine.steps[number][1]] for number in way if machine.steps[number][1] in watch)


def names_done(machine, way):
    return {machine.faults[machine.steps[number][1]] for number in way if machine.steps[number][1] in machine.faults}


def estimate(machine, watch, row):
    """The set of (state, faults) behind a row of sights, found by walking along the row."""
    first = (machine.start, frozenset(), 0)
    found = {first}
    waiting = [first]
    while waiting:
        state, done, at = waiting.pop()
        for source, each, target in machine.steps:
            if source != state or (each in watch and (at == len(row) or watch[each] != row[at])):
                continue
            extra = {machine.faults[each]} if each in machine.faults else set()
            node = (target, done | extra, at + (1 if each in watch else 0))
            if node not in found:
                found.add(node)
                waiting.append(node)
    return {(state, tuple(sorted(done))) for state, done, at in found if at == len(row)}


def rows(machine, watch, many):
    """The ascending list of all rows of just so many sights."""
    found = {(machine.start, ())}
    waiting = list(found)
    while waiting:
        state, row = waiting.pop()
        for source, each, target in machine.steps:
            node = (target, row + ((watch[each],) if each in watch else ()))
            if source == state and len(node[1]) <= many and node not in found:
                found.add(node)
                waiting.append(node)
    return sorted({row for _, row in found if len(row) == many})


def estimates(machine, watch):
    """The dict from all estimates, as frozen sets, to their least shortest rows."""
    first = frozenset(estimate(machine, watch, ()))
    found = {first: ()}
    layer = [()]
    signs = sorted({watch[each] for each in machine.words if each in watch})
    while layer:
        longer = []
        for row in sorted(layer):
            for sign in signs:
                each = frozenset(estimate(machine, watch, row + (sign,)))
                if each and each not in found:
                    found[each] = row + (sign,)
                    longer.append(row + (sign,))
        layer = longer
    return found


def is_veil(machine, watch, fault, thing):
    """Point [32] for a list of tuples of two tuples of reached states."""
    def closed(pairs):
        pairs = set(pairs)
        while True:
            more = {(target, had or machine.faults.get(each) == fault) for state, had in pairs
                    for source, each, target in machine.steps if source == state and each not in watch}
            if more <= pairs:
                return pairs
            pairs |= more

    items = [{(state, True) for state in having} | {(state, False) for state in lacking} for having, lacking in thing]
    if any(not lacking or list(lacking) != sorted(set(lacking)) or list(having) != sorted(set(having))
           for having, lacking in thing):
        return False
    if closed({(machine.start, False)}) not in items:
        return False
    for item in items:
        for sign in watch.sights:
            entered = {(target, had or machine.faults.get(each) == fault) for state, had in item
                       for source, each, target in machine.steps if source == state and watch[each] == sign}
            if entered and closed(entered) not in items:
                return False
    return True


def moves(machine, watches, fault, placed):
    """All moves of an alike tuple: (is it a main move, is it a step of the fault, the tuple that it leads to)."""
    def breaks(each):
        return machine.faults.get(each) == fault

    x, *others = placed
    for at, watch in enumerate(watches):
        for source, each, target in machine.steps:
            if source == others[at] and each not in watch and not breaks(each):
                yield False, False, placed[:at + 1] + (target,) + placed[at + 2:]
    for source, each, target in machine.steps:
        if source == x:
            choices = []
            for watch, y in zip(watches, others):
                if each not in watch:
                    choices.append([y])
                else:
                    choices.append([goal for start, word, goal in machine.steps if start == y and not breaks(word)
                                    and watch[word] == watch[each]])
            for chosen in itertools.product(*choices):
                yield True, breaks(each), (target,) + chosen


def met(machine, watches, fault):
    """The sets of the met tuples AHEAD and BEHIND."""
    first = (False, (machine.start,) * (len(watches) + 1))
    found = {first}
    waiting = [first]
    while waiting:
        behind, placed = waiting.pop()
        for _, breaking, entered in moves(machine, watches, fault, placed):
            node = (behind or breaking, entered)
            if node not in found:
                found.add(node)
                waiting.append(node)
    return {placed for behind, placed in found if not behind}, {placed for behind, placed in found if behind}


def ranks(machine, watches, fault):
    """The ranks by making them greater until nothing changes; None if that does not end."""
    ahead, behind = met(machine, watches, fault)
    found = {placed: 0 for placed in behind}
    changed = True
    while changed:
        changed = False
        for placed in behind:
            for main, _, entered in moves(machine, watches, fault, placed):
                if found[entered] + main > found[placed]:
                    found[placed] = found[entered] + main
                    changed = True
                    if found[placed] > len(behind):
                        return None
    return sorted(ahead), {placed: found[placed] for placed in sorted(behind)}


def is_ranks(machine, watches, fault, most, thing):
    """Point [37] for a tuple of a list and a dict of the right form."""
    ahead, behind = thing
    if (machine.start,) * (len(watches) + 1) not in ahead:
        return False
    for placed in ahead:
        for _, breaking, entered in moves(machine, watches, fault, placed):
            if not breaking and entered not in ahead:
                return False
            if breaking and not (entered in behind and behind[entered] < most):
                return False
    for placed, number in behind.items():
        for main, _, entered in moves(machine, watches, fault, placed):
            if entered not in behind or behind[entered] > number - main:
                return False
    return True


def closed_estimate(machine, watch, fault, pairs):
    pairs = set(pairs)
    while True:
        more = {(target, had or machine.faults.get(each) == fault) for state, had in pairs
                for source, each, target in machine.steps if source == state and each not in watch}
        if more <= pairs:
            return frozenset(pairs)
        pairs |= more


def knowing(machine, watches, fault):
    """The graph of what all watches know along one run: nodes (state, had, estimates) to lists of nodes."""
    def entered(watch, pairs, each):
        if each not in watch:
            return pairs
        return closed_estimate(machine, watch, fault, {
            (target, had or machine.faults.get(word) == fault) for state, had in pairs
            for source, word, target in machine.steps if source == state and watch[word] == watch[each]})

    first = (machine.start, False,
             tuple(closed_estimate(machine, watch, fault, {(machine.start, False)}) for watch in watches))
    graph = {}
    waiting = [first]
    while waiting:
        node = waiting.pop()
        if node in graph:
            continue
        state, had, views = node
        graph[node] = [
            (target, had or machine.faults.get(each) == fault,
             tuple(entered(watch, pairs, each) for watch, pairs in zip(watches, views)))
            for source, each, target in machine.steps if source == state]
        waiting.extend(graph[node])
    return first, graph


def unknown_lengths(machine, watches, fault, most):
    """For each count up to `most`: the fewest steps of a run with so many steps behind the fault, known to nobody."""
    first, graph = knowing(machine, watches, fault)

    def hidden(node):
        return node[1] and not any(all(had for _, had in pairs) for pairs in node[2])

    found = {}
    layer = {(first, 0)}
    seen = set()
    length = 0
    while layer:
        seen |= layer
        for node, behind in layer:
            if hidden(node):
                found.setdefault(behind, length)
        longer = set()
        for node, behind in layer:
            for after in graph[node]:
                count = min(behind + 1, most) if node[1] else 0
                if not after[1] or hidden(after):
                    longer.add((after, count))
        layer = longer - seen
        length += 1
    return found


def late(machine, watches, fault, most=400):
    """`late` from what is known along all runs: no alike tuples are used. Nothing is `most` or more but None."""
    counts = unknown_lengths(machine, watches, fault, most)
    if most in counts:
        return None
    return max(counts) + 1 if counts else 0
