"""The moves of alike tuples (point [34]), each taken apart so that one state changes at a time.

A node is a tuple (behind, placed, waiting). If `waiting` is empty, it is the alike tuple `placed`, which is AHEAD
or BEHIND. Otherwise it stands in the middle of a main move: `placed` are the states of x and of those y that have
made their part, and `waiting` are pairs (state, sight) of the other y; the sight is None for a y that stays.
Taken apart, the many main moves of a tuple share most of their parts, so there are far fewer of these.
"""

X = 0
STAYS = -1


class Moves:
    """The parts of the moves, as edges (node, index, number) from a node.

    The step of the number is done by the run of this index in the tuple; the number is STAYS if none is done.
    A main move begins with an edge of the index X, and no other edge has this index.
    """

    def __init__(self, machine, watches, fault):
        faults = machine.faults
        self.leaving = {state: [] for state in machine.states}
        self.unseen = [{} for watch in watches]
        self.seen = [{} for watch in watches]
        for number, (source, word, target) in enumerate(machine.steps):
            sights = tuple([watch[word] for watch in watches])
            breaking = faults.get(word) == fault
            if source in self.leaving:
                self.leaving[source].append((number, target, sights, breaking))
            if not breaking:
                self.add_step_of_y((number, source, target), sights)

    def add_step_of_y(self, step, sights):
        """Notes a step that each y may do; of several that enter the same state, the first one is enough."""
        number, source, target = step
        for at, sight in enumerate(sights):
            if sight is None:
                self.unseen[at].setdefault(source, {}).setdefault(target, number)
            else:
                self.seen[at].setdefault((source, sight), {}).setdefault(target, number)

    def edges_from(self, node):
        """The list of all edges from a node."""
        behind, placed, waiting = node
        if len(waiting) == 0:
            return self.side_edges(behind, placed) + self.main_edges(behind, placed)
        index = len(placed)
        return [((behind, placed + (target,), waiting[1:]), index, number)
                for target, number in self.entered_by(index, waiting[0]).items()]

    def side_edges(self, behind, placed):
        """The edges of the side moves of a tuple."""
        edges = []
        for index in range(1, len(placed)):
            entered = self.unseen[index - 1].get(placed[index], {})
            for target, number in entered.items():
                edges.append(((behind, placed[:index] + (target,) + placed[index + 1:], ()), index, number))
        return edges

    def main_edges(self, behind, placed):
        """The edges with which the main moves of a tuple begin; each of them can be gone on with to a tuple."""
        edges = []
        for number, target, sights, breaking in self.leaving[placed[X]]:
            waiting = tuple(zip(placed[1:], sights))
            if all([len(self.entered_by(at + 1, pair)) > 0 for at, pair in enumerate(waiting)]):
                edges.append(((behind or breaking, (target,), waiting), X, number))
        return edges

    def entered_by(self, index, pair):
        """The dict from the states that the y of this index may enter in a main move to the numbers of its steps."""
        state, sight = pair
        if sight is None:
            return {state: STAYS}
        return self.seen[index - 1].get(pair, {})


def first_node(machine, watches):
    """The node of the first tuple."""
    return False, (machine.start,) * (len(watches) + 1), ()


def is_tuple_node(node):
    """Whether the node is an alike tuple, and not in the middle of a main move."""
    return len(node[2]) == 0
