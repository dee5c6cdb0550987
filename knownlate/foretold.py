"""How long ahead a fault is foretold, with papers that show it (points [44] to [50])."""

from knownlate.checks import check_count, check_fault, check_watches
from knownlate.late import ways_of_parts
from knownlate.limits import MOST_BEHIND
from knownlate.met import Met
from knownlate.moves import X
from knownlate.ways import is_way, sights_along, steps_behind_first, steps_of_fault, way_end


def avoiding(machine, fault):
    """The ascending list of the reached states in which an endless run without the fault begins."""
    check_fault(machine, fault)
    free, _ = steps_by_state(machine, fault)
    return list(safe_steps(machine.states, free))


def ahead(machine, watches, fault):
    """The greatest m such that the fault is told 0, 1, .. up to m steps ahead; -1 for none, None for all."""
    check_watches(watches)
    check_fault(machine, fault)
    free, breaking = steps_by_state(machine, fault)
    met = Met(machine, watches, fault)
    safe = safe_steps(machine.states, free)
    reached = {placed[X]: True for placed in met.tuples_ahead() if is_untold_tuple(placed, safe)}
    layer = list(reached)
    many = 0
    # The fault is not told m steps ahead just if m free steps lead from one of these states to a step of the fault.
    while len(layer) > 0:
        if any([state in breaking for state in layer]):
            return many - 1
        entered = {target: True for state in layer for number, target in free[state] if target not in reached}
        layer = list(entered)
        reached.update(entered)
        many += 1
    return None


def untold(machine, watches, fault, many):
    """A run that is not foretold `many` steps ahead, with what shows it; None if the fault is told so."""
    check_watches(watches)
    check_fault(machine, fault)
    check_count(many, MOST_BEHIND)
    free, breaking = steps_by_state(machine, fault)
    met = Met(machine, watches, fault)
    safe = safe_steps(machine.states, free)
    layers = layers_ahead(machine.states, free, breaking, many)
    path = met.path(0, lambda at: is_untold_place(met, at, safe, layers[many]))
    if path is None:
        return None
    parts, place = path
    run, *others = ways_of_parts(parts, len(watches) + 1)
    end, *ends = met.nodes[place][1]
    ways = [way_and_loop(state, safe) for state in ends]
    return run, tail_from(end, free, layers, many), tuple([(other,) + way for other, way in zip(others, ways)])


def is_untold(machine, watches, fault, many, thing):
    """Whether any object is a tuple as `untold` returns it."""
    check_watches(watches)
    check_fault(machine, fault)
    check_count(many, MOST_BEHIND)
    if not isinstance(thing, tuple) or len(thing) != 3:
        return False
    run, tail, others = thing
    if not is_run_and_tail(machine, fault, run, tail) or len(tail) != many:
        return False
    if not isinstance(others, tuple) or len(others) != len(watches):
        return False
    return all([is_other(machine, watch, fault, run, other) for watch, other in zip(watches, others)])


def steps_by_state(machine, fault):
    """Two dicts: from all reached states to the (number, state entered) of their steps that are not of the fault,
    and from the reached states that a step of the fault leaves to True.
    """
    free = {state: [] for state in machine.states}
    breaking = {}
    of_fault = steps_of_fault(machine, fault)
    for number, (source, word, target) in enumerate(machine.steps):
        if source in free and number not in of_fault:
            free[source].append((number, target))
        elif source in free:
            breaking[source] = True
    return free, breaking


def safe_steps(states, free):
    """The dict from the states that can avoid the fault, ascending, to a step (number, state) to such a state."""
    safe = {state: True for state in states}
    while True:
        found = {}
        for state in safe:
            rows = [(number, target) for number, target in free[state] if target in safe]
            if len(rows) > 0:
                found[state] = rows[0]
        if len(found) == len(safe):
            return found
        safe = found


def is_untold_tuple(placed, safe):
    """Whether a met tuple AHEAD shows that its first run is not foretold."""
    return all([state in safe for state in placed[1:]])


def is_untold_place(met, place, safe, wanted):
    """Whether the place is that of such a tuple AHEAD whose first run ends in a wanted state."""
    behind, placed, waiting = met.nodes[place]
    return not behind and len(waiting) == 0 and placed[X] in wanted and is_untold_tuple(placed, safe)


def layers_ahead(states, free, breaking, many):
    """For each count from 0 to `many`, the dict whose keys are the states from which just so many free steps can be
    done, and then a step of the fault.
    """
    layers = [breaking]
    for at in range(many):
        layers.append({state: True for state in states
                       if any([target in layers[at] for number, target in free[state]])})
    return layers


def tail_from(state, free, layers, many):
    """The numbers of so many free steps from a state to one that a step of the fault leaves."""
    tail = []
    end = state
    for left in reversed(range(many)):
        number, end = [step for step in free[end] if step[1] in layers[left]][0]
        tail.append(number)
    return tuple(tail)


def way_and_loop(state, safe):
    """A way from a state that can avoid the fault, and a loop from its end back to this end, both without it."""
    places = {}
    numbers = []
    end = state
    while end not in places:
        places[end] = len(numbers)
        number, end = safe[end]
        numbers.append(number)
    return tuple(numbers[:places[end]]), tuple(numbers[places[end]:])


def is_run_and_tail(machine, fault, run, tail):
    """Whether two objects are a run and a way from its end, both without the fault, and then the fault can be done."""
    steps = machine.steps
    if not is_way(steps, machine.start, run) or not is_way(steps, way_end(steps, machine.start, run), tail):
        return False
    breaking = steps_of_fault(machine, fault)
    end = way_end(steps, machine.start, run + tail)
    return steps_behind_first(run + tail, breaking) is None and any([steps[number][0] == end for number in breaking])


def is_other(machine, watch, fault, run, value):
    """Whether any object is a run that looks like the given one, a way and a loop behind it, all without the fault."""
    if not isinstance(value, tuple) or len(value) != 3:
        return False
    other, way, loop = value
    steps = machine.steps
    if not is_way(steps, machine.start, other) or not is_way(steps, way_end(steps, machine.start, other), way):
        return False
    end = way_end(steps, machine.start, other + way)
    if not is_way(steps, end, loop) or len(loop) == 0 or way_end(steps, end, loop) != end:
        return False
    if steps_behind_first(other + way + loop, steps_of_fault(machine, fault)) is not None:
        return False
    return sights_along(steps, watch, other) == sights_along(steps, watch, run)
