"""Comparing two watches: whether one of them tells all that the other one tells (points [51] to [54])."""

from heapq import heappop, heappush

from knownlate.checks import check_watch
from knownlate.ways import is_way, sights_along

NO_STEP = -1
# What stands for all pairs of runs that are not alike for the other watch; no state is below 0.
PARTED = (-1, -1)


def finer(machine, one, other):
    """Whether any two runs that are alike for the one watch are alike for the other one, too."""
    return unlike(machine, one, other) is None


def unlike(machine, one, other):
    """Two runs that are alike for the one watch and not for the other one, the sum of their lengths least; or None."""
    check_watch(one)
    check_watch(other)
    leaving = seen_moves(machine, one, other)
    first = (machine.start, machine.start)
    came = {}
    waiting = [(0, first, first, NO_STEP, NO_STEP)]
    while len(waiting) > 0:
        length, pair, origin, left, right = heappop(waiting)
        if pair in came:
            continue
        came[pair] = (origin, left, right)
        if pair == PARTED:
            return runs_to_parted(came, first)
        for target, left_step, right_step in moves_from(pair, leaving):
            if target not in came:
                more = len([step for step in (left_step, right_step) if step != NO_STEP])
                heappush(waiting, (length + more, target, pair, left_step, right_step))
    return None


def is_unlike(machine, one, other, thing):
    """Whether any object is a tuple of two runs that are alike for the one watch and not for the other one."""
    check_watch(one)
    check_watch(other)
    if not isinstance(thing, tuple) or len(thing) != 2:
        return False
    steps = machine.steps
    if not all([is_way(steps, machine.start, run) for run in thing]):
        return False
    left, right = thing
    if sights_along(steps, one, left) != sights_along(steps, one, right):
        return False
    return sights_along(steps, other, left) != sights_along(steps, other, right)


def same_sight(machine, one, other):
    """Whether just the same runs are alike for both watches."""
    return finer(machine, one, other) and finer(machine, other, one)


def seen_moves(machine, one, other):
    """The dict from the states that steps leave to lists of (number, state entered, sight, sight for the other)."""
    moves = {}
    for number, (source, word, target) in enumerate(machine.steps):
        moves.setdefault(source, []).append((number, target, one[word], other[word]))
    return moves


def moves_from(pair, leaving):
    """The list of (pair entered, step of the left run, step of the right run) of a pair of ends of two runs.

    The runs are alike for both watches, and they stay alike for the one watch. In a pair of runs that is as short
    as possible, they are not alike for the other watch only at the very end. So what comes behind is left out.
    """
    left, right = pair
    moves = []
    for number, target, sight, shown in leaving[left]:
        if sight is None:
            moves.append(((target, right) if shown is None else PARTED, number, NO_STEP))
            continue
        for beside, entered, same, beside_shown in leaving[right]:
            if same == sight:
                moves.append(((target, entered) if shown == beside_shown else PARTED, number, beside))
    for number, target, sight, shown in leaving[right]:
        if sight is None:
            moves.append(((left, target) if shown is None else PARTED, NO_STEP, number))
    return moves


def runs_to_parted(came, first):
    """The two runs by which the search came to PARTED."""
    runs = [[], []]
    pair = PARTED
    while pair != first:
        pair, left, right = came[pair]
        for run, step in zip(runs, (left, right)):
            if step != NO_STEP:
                run.append(step)
    return tuple(runs[0][::-1]), tuple(runs[1][::-1])
