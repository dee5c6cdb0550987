"""Lost sights: a machine in which the sights of some steps do not reach the watch (points [42] and [43])."""

from knownlate.checks import check_count, check_watch
from knownlate.errors import BadWord
from knownlate.limits import MOST_LOST
from knownlate.machines import Machine, faults_of_steps, moves_by_state
from knownlate.pairs import numbered_moves, steps_of_moves
from knownlate.values import is_name
from knownlate.watches import Watch

LOST = "lost"


def with_losses(machine, watch, most):
    """The machine and the watch in which the sights of up to `most` steps in all are lost."""
    check_watch(watch)
    check_count(most, MOST_LOST)
    words = machine.words
    seen = [word for word in words if word in watch]
    # Without losses no word is made, so a word of the machine that begins with "lost" means nothing special.
    losing = seen if most > 0 else []
    check_losing(losing, words)
    leaving = moves_by_state(machine.steps)
    rows = numbered_moves((machine.start, 0), lambda pair: moves_with_losses(pair, leaving, losing, most))
    steps = steps_of_moves(rows)
    faults = machine.faults
    of_lost = {LOST + word: faults[word] for word in losing if word in faults}
    made = Machine(0, steps, faults_of_steps(steps, {**faults, **of_lost}))
    return made, Watch({word: watch[word] for word in seen})


def check_losing(losing, words):
    """Raises BadWord for the first word whose lost word is not a name or is a word of the machine."""
    for word in losing:
        if not is_name(LOST + word) or LOST + word in words:
            raise BadWord(word)


def moves_with_losses(pair, leaving, losing, most):
    """The moves (word, pair entered) of a pair (state, sights lost), in the order of point [42]."""
    state, lost = pair
    moves = []
    for word, target in leaving[state]:
        moves.append((word, (target, lost)))
        if word in losing and lost < most:
            moves.append((LOST + word, (target, lost + 1)))
    return moves
