"""The greatest numbers of main moves on the paths of a graph.

A graph is a list of lists of edges: edges[place] are the edges (place entered, index, number) from a place. All
places can be reached from the place 0. An edge of the index X begins a main move and counts, no other edge does.
"""

from knownlate.moves import X

# A path without a circle does at most one main move from each of at most 5000 met tuples, so it never counts so many.
ENDLESS = 5001


def greatest_counts(edges, numbers):
    """For each place, the greatest number of main moves on a path from it; ENDLESS if there is no greatest.

    The numbers are those of `circle_numbers`.
    """
    members = [[] for _ in range(max(numbers) + 1)]
    for place, number in enumerate(numbers):
        members[number].append(place)
    counts = [0 for _ in members]
    for number in reversed(range(len(members))):
        counts[number] = greatest_of_circle(edges, members[number], numbers, counts)
    return [counts[number] for number in numbers]


def greatest_of_circle(edges, places, numbers, counts):
    """The greatest number of main moves from places with one number, if it is known for all later numbers."""
    greatest = 0
    for place in places:
        for target, index, _ in edges[place]:
            count = 1 if index == X else 0
            if numbers[target] != numbers[place]:
                greatest = max(greatest, counts[numbers[target]] + count)
            elif count > 0:
                return ENDLESS
    return min(greatest, ENDLESS)


def circle_numbers(edges):
    """For each place its number: equal for places that lead to each other, and never less behind an edge."""
    sources = [[] for _ in edges]
    for place, row in enumerate(edges):
        for target, index, number in row:
            sources[target].append(place)
    numbers = [None for _ in edges]
    many = 0
    # Walked against the edges from the last place left, a search finds just those places that lead to each other.
    for root in finished_order(edges)[::-1]:
        if numbers[root] is None:
            number_all_behind(root, sources, numbers, many)
            many += 1
    return numbers


def number_all_behind(root, sources, numbers, number):
    """Gives the number to all places without one from which the root can be reached."""
    numbers[root] = number
    waiting = [root]
    while len(waiting) > 0:
        for place in sources[waiting.pop()]:
            if numbers[place] is None:
                numbers[place] = number
                waiting.append(place)


def finished_order(edges):
    """All places in the order in which a search in depth from the place 0 leaves them for the last time."""
    order = []
    entered = {}
    waiting = [(0, False)]
    while len(waiting) > 0:
        place, finished = waiting.pop()
        if finished:
            order.append(place)
        elif place not in entered:
            entered[place] = True
            waiting.append((place, True))
            waiting.extend([(target, False) for target, index, number in edges[place] if target not in entered])
    return order
