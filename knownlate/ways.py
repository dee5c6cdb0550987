"""Ways: rows of numbers of steps, each of which leaves the state that the one ahead of it enters.

A run is a way from the start (point [22]). Except for `wrong_step`, `is_way` and `check_run`, the functions
are passed the list of all steps of the machine and a way that is known to be one.
"""

from knownlate.errors import BadRun
from knownlate.values import is_whole


def wrong_step(steps, source, way):
    """The index of the first item of any tuple that does not go on as a way from the source; None for a way."""
    state = source
    for at, number in enumerate(way):
        if not is_whole(number) or not 0 <= number < len(steps) or steps[number][0] != state:
            return at
        state = steps[number][2]
    return None


def is_way(steps, source, value):
    """Whether any object is a way from the source."""
    return isinstance(value, tuple) and wrong_step(steps, source, value) is None


def check_run(machine, run):
    """Raises BadRun if the argument is not a run of the machine."""
    if not isinstance(run, tuple):
        raise BadRun(-1)
    wrong = wrong_step(machine.steps, machine.start, run)
    if wrong is not None:
        raise BadRun(wrong)


def way_end(steps, source, way):
    """The state in which a way from the source ends."""
    return steps[way[-1]][2] if len(way) > 0 else source


def sights_along(steps, watch, way):
    """The tuple of the sights of the steps of the way that the watch sees."""
    sights = {word: watch[word] for source, word, target in steps}
    seen = [sights[steps[number][1]] for number in way]
    return tuple([sight for sight in seen if sight is not None])


def steps_of_fault(machine, fault):
    """The dict whose keys are the numbers of the steps of the fault."""
    faults = machine.faults
    return {number: True for number, step in enumerate(machine.steps) if faults.get(step[1]) == fault}


def steps_behind_first(way, breaking):
    """How many steps of the way follow its first step that is breaking, or None if none is."""
    for at, number in enumerate(way):
        if number in breaking:
            return len(way) - at - 1
    return None
