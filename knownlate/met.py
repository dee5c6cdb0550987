"""The graph of the met tuples, and searches in it (points [34] to [40])."""

from heapq import heappop, heappush

from knownlate.errors import TooMany
from knownlate.limits import MOST_MET
from knownlate.longest import circle_numbers, greatest_counts
from knownlate.moves import STAYS, X, Moves, first_node, is_tuple_node

NOWHERE = -1


class Met:
    """All nodes that edges reach from the first tuple, in numbered places; the first tuple has the place 0.

    `edges[place]` is the list of the edges (place entered, index, number) from a place.
    """

    def __init__(self, machine, watches, fault):
        moves = Moves(machine, watches, fault)
        first = first_node(machine, watches)
        places = {first: 0}
        many = 1
        self.nodes = [first]
        self.edges = []
        while len(self.edges) < len(self.nodes):
            row = []
            for node, index, number in moves.edges_from(self.nodes[len(self.edges)]):
                if node not in places:
                    many += 1 if is_tuple_node(node) else 0
                    if many > MOST_MET:
                        raise TooMany(MOST_MET)
                    places[node] = len(self.nodes)
                    self.nodes.append(node)
                row.append((places[node], index, number))
            self.edges.append(row)
        self.numbers = circle_numbers(self.edges)
        self.counts = greatest_counts(self.edges, self.numbers)

    def is_behind(self, place):
        """Whether the place is that of a tuple BEHIND."""
        return self.nodes[place][0] and is_tuple_node(self.nodes[place])

    def tuples_ahead(self):
        """The ascending list of the met tuples AHEAD."""
        return sorted([placed for behind, placed, waiting in self.nodes if not behind and len(waiting) == 0])

    def places_behind(self):
        """The list of the places of the met tuples BEHIND, the tuples ascending."""
        found = {self.nodes[place][1]: place for place in range(len(self.nodes)) if self.is_behind(place)}
        return [found[placed] for placed in sorted(list(found))]

    def path(self, source, is_wanted):
        """A path with the fewest main moves from a place to one that is wanted.

        It is returned as the list of the pairs (index, number) of its edges, and the place to which it leads.
        None is returned if there is no such path.
        """
        came = {}
        waiting = [(0, 0, source, NOWHERE, X, STAYS)]
        while len(waiting) > 0:
            mains, length, place, origin, made_by, step = heappop(waiting)
            if place in came:
                continue
            came[place] = (origin, made_by, step)
            if is_wanted(place):
                return parts_to(place, came), place
            for target, index, number in self.edges[place]:
                if target not in came:
                    more = mains + 1 if index == X else mains
                    heappush(waiting, (more, length + 1, target, place, index, number))
        return None

    def path_behind(self, many):
        """The path from the first tuple to a tuple BEHIND from which `many` main moves can follow, or None.

        It ends with the first step of the fault, since no more main moves can follow a later tuple than this one.
        """
        return self.path(0, lambda place: self.is_behind(place) and self.counts[place] >= many)

    def main_move(self, source, many):
        """A path from a place to the first part of a main move behind which `many` main moves can follow.

        There is one if the number of the place in `counts` is greater than `many`.
        """
        parts, place = self.path(source, lambda at: self.main_edge(at, many) is not None)
        target, index, number = self.main_edge(place, many)
        return parts + [(index, number)], target

    def rest_of_move(self, source):
        """The path from a place to the tuple at the end of the main move that it is in the middle of."""
        return self.path(source, lambda place: is_tuple_node(self.nodes[place]))

    def main_edge(self, place, many):
        """The first edge from the place that begins a main move behind which `many` can follow, or None."""
        for target, index, number in self.edges[place]:
            if index == X and self.counts[target] >= many:
                return target, index, number
        return None

    def circle(self):
        """A place of a tuple BEHIND and an edge from it that begins a main move of a circle, or None."""
        for place in range(len(self.nodes)):
            if self.is_behind(place):
                for target, index, number in self.edges[place]:
                    if index == X and self.numbers[target] == self.numbers[place]:
                        return place, (target, index, number)
        return None


def parts_to(place, came):
    """The list of the pairs (index, number) of the edges by which a search came to a place."""
    parts = []
    origin, index, number = came[place]
    while origin != NOWHERE:
        parts.append((index, number))
        origin, index, number = came[origin]
    return parts[::-1]
