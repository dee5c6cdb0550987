"""The errors of the arguments that many functions share (point [7], and the points with a BadCount)."""

from knownlate.errors import BadCount, BadWatch, BadWatches, NoFault
from knownlate.limits import MOST_WATCHES
from knownlate.values import is_name, is_row, is_whole
from knownlate.watches import Watch


def check_watch(watch):
    """Raises BadWatch if the argument is not a Watch."""
    if not isinstance(watch, Watch):
        raise BadWatch(watch)


def check_watches(watches):
    """Raises BadWatches if the argument is not a row of 1 to 3 Watches."""
    if not is_row(watches) or not 1 <= len(watches) <= MOST_WATCHES:
        raise BadWatches(-1)
    for at, watch in enumerate(watches):
        if not isinstance(watch, Watch):
            raise BadWatches(at)


def check_fault(machine, fault):
    """Raises NoFault if the argument is not the name of a fault of the machine."""
    if not is_name(fault) or fault not in machine.fault_names:
        raise NoFault(fault)


def check_count(count, most):
    """Raises BadCount if the argument is not an integer from 0 to the greatest count allowed."""
    if not is_whole(count) or not 0 <= count <= most:
        raise BadCount(count)
