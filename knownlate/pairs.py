"""Machines whose states are numbered pairs: the numbers of the pairs, and the steps with their limits."""

from knownlate.errors import NotLive, TooMany
from knownlate.limits import MOST_LEAVING, MOST_PAIRS, MOST_STEPS, MOST_WORDS


def numbered_moves(first, moves_from):
    """For each reached pair, in the order of the numbers, the list of its moves (word, number entered).

    `moves_from(pair)` returns the list of the moves (word, pair entered) of a pair, in their order.
    Raises TooMany(100) for more than 100 pairs.
    """
    numbers = {first: 0}
    pairs = [first]
    rows = []
    while len(rows) < len(pairs):
        moves = moves_from(pairs[len(rows)])
        row = []
        for word, entered in moves:
            if entered not in numbers:
                if len(pairs) == MOST_PAIRS:
                    raise TooMany(MOST_PAIRS)
                numbers[entered] = len(pairs)
                pairs.append(entered)
            row.append((word, numbers[entered]))
        rows.append(row)
    return rows


def steps_of_moves(rows):
    """The steps of the rows of moves, pair by pair. Raises TooMany(8), TooMany(80), TooMany(14), in this order."""
    if max([len(row) for row in rows]) > MOST_LEAVING:
        raise TooMany(MOST_LEAVING)
    steps = [(number, word, entered) for number, row in enumerate(rows) for word, entered in row]
    if len(steps) > MOST_STEPS:
        raise TooMany(MOST_STEPS)
    if len({step[1] for step in steps}) > MOST_WORDS:
        raise TooMany(MOST_WORDS)
    return steps


def check_live(rows):
    """Raises NotLive for the least number of a pair without moves."""
    for number, row in enumerate(rows):
        if len(row) == 0:
            raise NotLive(number)
