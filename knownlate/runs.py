"""Runs of a machine, what a watch sees of them, and all rows of sights (points [22] to [26])."""

from knownlate.checks import check_count, check_fault, check_watch
from knownlate.errors import BadState
from knownlate.limits import MOST_SIGHTS
from knownlate.spread import Spread
from knownlate.values import is_state
from knownlate.ways import check_run, sights_along, steps_behind_first, steps_of_fault, way_end


def end_of(machine, run):
    """The state in which the run ends."""
    check_run(machine, run)
    return way_end(machine.steps, machine.start, run)


def faults_in(machine, run):
    """The ascending list of the names of the faults that the run has."""
    check_run(machine, run)
    steps = machine.steps
    faults = machine.faults
    words = [steps[number][1] for number in run]
    return sorted({faults[word] for word in words if word in faults})


def sights_of(machine, watch, run):
    """The tuple of the sights of the steps of the run that the watch sees."""
    check_watch(watch)
    check_run(machine, run)
    return sights_along(machine.steps, watch, run)


def steps_behind(machine, run, fault):
    """How many steps follow the first step of the fault, or None if the run does not have the fault."""
    check_run(machine, run)
    check_fault(machine, fault)
    return steps_behind_first(run, steps_of_fault(machine, fault))


def alike(machine, watch, one, other):
    """Whether the two runs look the same to the watch."""
    check_watch(watch)
    check_run(machine, one)
    check_run(machine, other)
    steps = machine.steps
    return sights_along(steps, watch, one) == sights_along(steps, watch, other)


def rows_of(machine, watch, many):
    """A generator of all rows of just `many` sights that some run has, in ascending order."""
    check_watch(watch)
    check_count(many, MOST_SIGHTS)
    spread = Spread(machine, watch, [])
    lasting = lasting_sets(spread, many)
    waiting = [((), spread.first)]
    while len(waiting) > 0:
        row, chosen = waiting.pop()
        if len(row) == many:
            yield row
        else:
            # Rows that cannot be made long enough are left here, so that the search for the next row is short.
            wanted = lasting[many - len(row) - 1]
            longer = [(row + (sight,), entered) for sight, entered in spread.beyond(chosen).items()
                      if (entered & wanted) != 0]
            waiting.extend(longer[::-1])


def lasting_sets(spread, many):
    """For each count from 0 to `many`, the set of the pairs from which runs with so many more sights go on."""
    found = [spread.set_of(spread.pairs)]
    for _ in range(many):
        found.append(spread.leading_into(found[-1]))
    return found


def shortest_to(machine, state):
    """The run with the fewest steps that ends in the state, the least one if there are several."""
    if not is_state(state) or state not in machine.states:
        raise BadState(state)
    steps = machine.steps
    runs = {machine.start: ()}
    waiting = [machine.start]
    # The states come in the order of their least shortest runs, so the first run that enters a state is its least.
    while state not in runs:
        source = waiting.pop(0)
        for number, step in enumerate(steps):
            if step[0] == source and step[2] not in runs:
                runs[step[2]] = runs[source] + (number,)
                waiting.append(step[2])
    return runs[state]
