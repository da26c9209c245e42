"""Shortest ways, where a function tells for each place the ones that come next."""


def ways_from(start, ahead):
    """Return for each place that can be reached the place before it on a shortest way, and None for start."""
    before = {start: None}
    line = [start]
    at = 0
    while at < len(line):
        place = line[at]
        for further in ahead(place):
            if further not in before:
                before[further] = place
                line.append(further)
        at += 1
    return before


def shortest_way(start, goal, ahead):
    """Return the places of a shortest way from start to another place, both included, or None."""
    before = ways_from(start, ahead)
    if goal not in before:
        return None
    way = [goal]
    while way[-1] != start:
        way.append(before[way[-1]])
    return way[::-1]
