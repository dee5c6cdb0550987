"""What a watch knows: estimates, the rows of sights that tell a fault, and veils (points [27] to [32])."""

from knownlate.checks import check_fault, check_watch
from knownlate.errors import BadSights, TooMany
from knownlate.limits import MOST_ESTIMATES
from knownlate.spread import Spread
from knownlate.values import is_name, is_state


def after(machine, watch, sights):
    """The estimate behind a row of sights: the ascending list of (state, faults) of all runs with these sights."""
    check_watch(watch)
    if not isinstance(sights, tuple):
        raise BadSights(-1)
    spread = Spread(machine, watch, machine.fault_names)
    chosen = spread.first
    # A long row comes to the same sets again and again.
    entered = {}
    for at, sight in enumerate(sights):
        if chosen not in entered:
            entered[chosen] = spread.beyond(chosen)
        if not is_name(sight) or sight not in entered[chosen]:
            raise BadSights(at)
        chosen = entered[chosen][sight]
    return spread.pairs_in(chosen)


def known(machine, watch, sights):
    """The ascending lists of the faults that are sure, unsure, and out behind a row of sights."""
    pairs = after(machine, watch, sights)
    sure, unsure, out = [], [], []
    for name in machine.fault_names:
        many = len([True for state, done in pairs if name in done])
        if many == len(pairs):
            sure.append(name)
        elif many == 0:
            out.append(name)
        else:
            unsure.append(name)
    return sure, unsure, out


def telling(machine, watch, fault):
    """The least of the shortest rows of sights after which the watch knows the fault, or None if there is none."""
    check_watch(watch)
    check_fault(machine, fault)
    spread = Spread(machine, watch, machine.fault_names)
    return telling_row(spread, all_estimates(spread), fault)


def veil(machine, watch, fault):
    """None if the watch can know the fault, otherwise all estimates, each as (states with it, states without it)."""
    check_watch(watch)
    check_fault(machine, fault)
    spread = Spread(machine, watch, machine.fault_names)
    came = all_estimates(spread)
    if telling_row(spread, came, fault) is not None:
        return None
    return sorted({veil_item(spread.pairs_in(chosen), fault) for chosen in came})


def is_veil(machine, watch, fault, thing):
    """Whether any object is a list that shows that the watch never knows the fault."""
    check_watch(watch)
    check_fault(machine, fault)
    states = machine.states
    if not isinstance(thing, list) or not all([is_veil_item(item, states) for item in thing]):
        return False
    spread = Spread(machine, watch, [fault])
    items = {}
    for having, lacking in thing:
        pairs = [(state, (fault,)) for state in having] + [(state, ()) for state in lacking]
        items[spread.set_of(pairs)] = True
    if spread.first not in items:
        return False
    for chosen in items:
        if not all([entered in items for entered in list(spread.beyond(chosen).values())]):
            return False
    return True


def all_estimates(spread):
    """The dict from all estimates, as sets, to the (estimate, sight) from which they come; None for the first.

    They stand in the order of their least shortest rows of sights. Raises TooMany if there are more than 2000.
    """
    came = {spread.first: None}
    waiting = [spread.first]
    while len(waiting) > 0:
        chosen = waiting.pop(0)
        for sight, entered in spread.beyond(chosen).items():
            if entered not in came:
                if len(came) == MOST_ESTIMATES:
                    raise TooMany(MOST_ESTIMATES)
                came[entered] = (chosen, sight)
                waiting.append(entered)
    return came


def telling_row(spread, came, fault):
    """The row of sights of the first estimate of which each pair has the fault, or None if there is none."""
    lacking = spread.set_of([pair for pair in spread.pairs if fault not in pair[1]])
    for chosen in came:
        if (chosen & lacking) == 0:
            return row_to(chosen, came)
    return None


def row_to(chosen, came):
    """The row of sights by which the search came to an estimate."""
    row = []
    step = came[chosen]
    while step is not None:
        row.append(step[1])
        step = came[step[0]]
    return tuple(row[::-1])


def veil_item(pairs, fault):
    """The states of the pairs that have the fault, and the states of the others: two ascending tuples."""
    having = sorted({state for state, done in pairs if fault in done})
    lacking = sorted({state for state, done in pairs if fault not in done})
    return tuple(having), tuple(lacking)


def is_veil_item(value, states):
    """Whether any object is a tuple of two ascending tuples of these states, the second of them not empty."""
    if not isinstance(value, tuple) or len(value) != 2:
        return False
    having, lacking = value
    return is_ascending(having, states) and is_ascending(lacking, states) and len(lacking) > 0


def is_ascending(value, states):
    """Whether any object is an ascending tuple of some of the states."""
    if not isinstance(value, tuple) or not all([is_state(state) and state in states for state in value]):
        return False
    return all([one < other for one, other in zip(value, value[1:])])
