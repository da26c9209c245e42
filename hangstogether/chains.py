"""Chains from one thread up to another one that share no thread."""

from hangstogether.threads import are_threads, climbs, is_thread, lies_above, threads_above, threads_of
from hangstogether.ways import shortest_way, ways_from


def is_pair(cloth, start, end):
    """Tell whether two values are unlike threads of which the second one does not lie above the first one."""
    if not is_thread(cloth, start) or not is_thread(cloth, end):
        return False
    return start != end and not lies_above(cloth, end, start)


def pairs_of(cloth):
    """Return all pairs, in the order of threads, first by start and then by end."""
    threads = threads_of(cloth)
    return [(start, end) for start in threads for end in threads if is_pair(cloth, start, end)]


def are_chains(cloth, start, end, value):
    """Tell whether a value is a tuple of chains from start to end that share no thread."""
    if not isinstance(value, tuple) or not all([_is_chain(cloth, start, end, chain) for chain in value]):
        return False
    between = [thread for chain in value for thread in chain[1:-1]]
    return start not in between and end not in between and len(set(between)) == len(between)


def _is_chain(cloth, start, end, value):
    if not are_threads(cloth, value) or value == ():
        return False
    return value[0] == start and value[-1] == end and climbs(cloth, value)


def most_disjoint(cloth, start, end):
    """Return as many chains from start to end as can share no thread, and as many threads that part the two.

    This is a greatest flow. Each thread has two nodes, where it is reached and where it is left, and room for
    one chain between them; behind it there is room enough. The threads of the cut are those that can still be
    reached, but not left.
    """
    room = _rooms(cloth)
    source, sink = (start, "left"), (end, "reached")
    way = _way_with_room(room, source, sink)
    while way is not None:
        for node, further in zip(way, way[1:]):
            room[node][further] -= 1
            room[further][node] += 1
        way = _way_with_room(room, source, sink)
    reached = ways_from(source, lambda place: _nodes_ahead(room, place))
    cut = [
        thread for thread in threads_of(cloth) if (thread, "reached") in reached and (thread, "left") not in reached
    ]
    return _chains_in(cloth, room, start, end), tuple(cut)


def _rooms(cloth):
    """Return for each node the room to each further node, and 0 for each way back."""
    threads = threads_of(cloth)
    room = {(thread, side): {} for thread in threads for side in ("reached", "left")}
    for lower in threads:
        room[(lower, "reached")][(lower, "left")] = 1
        room[(lower, "left")][(lower, "reached")] = 0
        for upper in threads_above(cloth, lower):
            room[(lower, "left")][(upper, "reached")] = len(threads)
            room[(upper, "reached")][(lower, "left")] = 0
    return room


def _nodes_ahead(room, node):
    return [further for further, left in room[node].items() if left > 0]


def _way_with_room(room, source, sink):
    return shortest_way(source, sink, lambda node: _nodes_ahead(room, node))


def _chains_in(cloth, room, start, end):
    return tuple([_chain_from(cloth, room, [start, first], end) for first in _uppers_in(cloth, room, start)])


def _chain_from(cloth, room, chain, end):
    while chain[-1] != end:
        chain = [*chain, _uppers_in(cloth, room, chain[-1])[0]]
    return tuple(chain)


def _uppers_in(cloth, room, lower):
    """Return the threads to which chains go on from a thread: there is room for a way back from them."""
    return [upper for upper in threads_above(cloth, lower) if room[(upper, "reached")][(lower, "left")] > 0]
