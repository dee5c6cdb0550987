"""How late at most a fault is known to some watch, with papers that show it (points [33] to [41])."""

from knownlate.checks import check_count, check_fault, check_watches
from knownlate.limits import MOST_BEHIND, MOST_RANK
from knownlate.longest import ENDLESS
from knownlate.met import Met
from knownlate.moves import STAYS, X, Moves, first_node, is_tuple_node
from knownlate.values import is_state, is_whole
from knownlate.ways import is_way, sights_along, steps_behind_first, steps_of_fault, way_end


def late(machine, watches, fault):
    """The least number of steps behind the fault after which some watch surely knows it, or None."""
    check_watches(watches)
    check_fault(machine, fault)
    met = Met(machine, watches, fault)
    greatest = max([met.counts[place] for place in met.places_behind()], default=-1)
    return None if greatest == ENDLESS else greatest + 1


def ranks(machine, watches, fault):
    """The met tuples AHEAD, and the dict from the met tuples BEHIND to their ranks; None if `late` is None."""
    check_watches(watches)
    check_fault(machine, fault)
    met = Met(machine, watches, fault)
    behind = {met.nodes[place][1]: met.counts[place] for place in met.places_behind()}
    if ENDLESS in list(behind.values()):
        return None
    return met.tuples_ahead(), behind


def is_ranks(machine, watches, fault, most, thing):
    """Whether any object is a tuple of a list and a dict that shows that `late` is at most `most`."""
    check_watches(watches)
    check_fault(machine, fault)
    check_count(most, MOST_RANK)
    if not is_ranks_form(thing, len(watches) + 1, machine.states):
        return False
    ahead, behind = thing
    moves = Moves(machine, watches, fault)
    numbers = {(False, placed, ()): 0 for placed in ahead}
    for placed, number in behind.items():
        numbers[(True, placed, ())] = number
    # A tuple that is not in the thing counts as too great for every limit.
    missing = max([most] + list(behind.values())) + 1
    found = {}
    for node, number in numbers.items():
        for target, index, _ in moves.edges_from(node):
            limit = number_allowed(node, number, target, index, most)
            if greatest_number(moves, target, numbers, missing, found) > limit:
                return False
    return first_node(machine, watches) in numbers


def alike_runs(machine, watches, fault, many):
    """A run with so many steps behind the fault, and for each watch an alike run without the fault; or None."""
    check_watches(watches)
    check_fault(machine, fault)
    check_count(many, MOST_BEHIND)
    met = Met(machine, watches, fault)
    path = met.path_behind(many)
    if path is None:
        return None
    parts, place = path
    for left in reversed(range(many)):
        more, place = met.main_move(place, left)
        parts.extend(more)
    rest, place = met.rest_of_move(place)
    return ways_of_parts(parts + rest, len(watches) + 1)


def is_alike(machine, watches, fault, many, thing):
    """Whether any object is a tuple of runs as `alike_runs` returns it; the first run may be longer."""
    check_watches(watches)
    check_fault(machine, fault)
    check_count(many, MOST_BEHIND)
    steps = machine.steps
    if not isinstance(thing, tuple) or len(thing) != len(watches) + 1:
        return False
    if not all([is_way(steps, machine.start, run) for run in thing]):
        return False
    breaking = steps_of_fault(machine, fault)
    behind = steps_behind_first(thing[0], breaking)
    return behind is not None and behind >= many and look_alike(steps, watches, thing, breaking)


def endless(machine, watches, fault):
    """Stems and loops of a run with the fault and of runs without it that always look like it; or None."""
    check_watches(watches)
    check_fault(machine, fault)
    met = Met(machine, watches, fault)
    circle = met.circle()
    if circle is None:
        return None
    place, (target, index, number) = circle
    stem, _ = met.path(0, lambda at: at == place)
    rest, _ = met.path(target, lambda at: at == place)
    many = len(watches) + 1
    return ways_of_parts(stem, many), ways_of_parts([(index, number)] + rest, many)


def is_endless(machine, watches, fault, thing):
    """Whether any object is a tuple of stems and loops as `endless` returns it."""
    check_watches(watches)
    check_fault(machine, fault)
    many = len(watches) + 1
    if not isinstance(thing, tuple) or len(thing) != 2:
        return False
    stems, loops = thing
    if not is_stems_and_loops(machine, stems, loops, many) or len(loops[0]) == 0:
        return False
    steps = machine.steps
    breaking = steps_of_fault(machine, fault)
    if steps_behind_first(stems[0], breaking) is None:
        return False
    return look_alike(steps, watches, stems, breaking) and look_alike(steps, watches, loops, breaking)


def is_ranks_form(value, many, states):
    """Whether any object is a tuple of a list of tuples and a dict from tuples to integers of at least 0."""
    if not isinstance(value, tuple) or len(value) != 2:
        return False
    ahead, behind = value
    if not isinstance(ahead, list) or not isinstance(behind, dict):
        return False
    if not all([is_whole(number) and number >= 0 for number in list(behind.values())]):
        return False
    return all([is_state_tuple(placed, many, states) for placed in ahead + list(behind)])


def is_state_tuple(value, many, states):
    """Whether any object is a tuple of so many of the states."""
    if not isinstance(value, tuple) or len(value) != many:
        return False
    return all([is_state(state) and state in states for state in value])


def number_allowed(node, number, target, index, most):
    """The greatest number that the target of an edge may have; the items of the list have the number 0."""
    if node[0]:
        return number - 1 if index == X else number
    return most - 1 if target[0] else 0


def greatest_number(moves, node, numbers, missing, found):
    """The greatest number of the tuples with which the main move of the node may end."""
    if is_tuple_node(node):
        return numbers.get(node, missing)
    if node not in found:
        found[node] = max([greatest_number(moves, target, numbers, missing, found)
                           for target, index, number in moves.edges_from(node)])
    return found[node]


def is_stems_and_loops(machine, stems, loops, many):
    """Whether two objects are tuples of so many runs and of as many ways that lead from their ends to their ends."""
    for rows in (stems, loops):
        if not isinstance(rows, tuple) or len(rows) != many:
            return False
    steps = machine.steps
    for stem, loop in zip(stems, loops):
        if not is_way(steps, machine.start, stem):
            return False
        end = way_end(steps, machine.start, stem)
        if not is_way(steps, end, loop) or way_end(steps, end, loop) != end:
            return False
    return True


def look_alike(steps, watches, ways, breaking):
    """Whether the ways behind the first one have no breaking step, each looking the same to its watch as the first."""
    for watch, way in zip(watches, ways[1:]):
        if steps_behind_first(way, breaking) is not None:
            return False
        if sights_along(steps, watch, way) != sights_along(steps, watch, ways[0]):
            return False
    return True


def ways_of_parts(parts, many):
    """For each index, the tuple of the steps that its run does in the parts of moves."""
    rows = [[] for _ in range(many)]
    for index, number in parts:
        if number != STAYS:
            rows[index].append(number)
    return tuple([tuple(row) for row in rows])
