"""The threads of a cloth, and what lies above what."""

from hangstogether.kinds import is_number, is_row


def threads_of(cloth):
    """Return all threads of a cloth, in order."""
    ends = [("end", number) for number in range(len(cloth[0]))]
    picks = [("pick", number) for number in range(len(cloth))]
    return tuple(ends + picks)


def is_thread(cloth, value):
    """Tell whether a value is a thread of a cloth."""
    if not is_row(value, 2):
        return False
    kind, number = value
    if kind == "end":
        return is_number(number, 0, len(cloth[0]) - 1)
    return kind == "pick" and is_number(number, 0, len(cloth) - 1)


def are_threads(cloth, value):
    """Tell whether a value is a tuple of threads of a cloth."""
    return isinstance(value, tuple) and all([is_thread(cloth, part) for part in value])


def are_unlike_threads(cloth, value):
    """Tell whether a value is a tuple of unlike threads of a cloth."""
    return are_threads(cloth, value) and len(set(value)) == len(value)


def lies_above(cloth, upper, lower):
    """Tell whether a thread lies above another one."""
    if upper[0] == lower[0]:
        return False
    if upper[0] == "end":
        return cloth[lower[1]][upper[1]] == 1
    return cloth[upper[1]][lower[1]] == 0


def threads_above(cloth, thread):
    """Return the threads that lie above a thread, in order."""
    kind, number = thread
    if kind == "end":
        return [("pick", pick) for pick, row in enumerate(cloth) if row[number] == 0]
    return [("end", end) for end, part in enumerate(cloth[number]) if part == 1]


def climbs(cloth, row):
    """Tell whether of the threads of a row each but the first one lies above the one before it."""
    return all([lies_above(cloth, upper, lower) for lower, upper in zip(row, row[1:])])


def lifted_without(cloth, gone, threads):
    """Return what is lifted with some threads when others are cut away, in the order of the threads."""
    raised = {thread: True for thread in threads}
    waiting = list(threads)
    while waiting:
        lower = waiting.pop()
        for upper in threads_above(cloth, lower):
            if upper not in raised and upper not in gone:
                raised[upper] = True
                waiting.append(upper)
    return tuple([thread for thread in threads_of(cloth) if thread in raised])


def rest_without(cloth, gone):
    """Return the threads that are left when some are cut away, in order."""
    return tuple([thread for thread in threads_of(cloth) if thread not in gone])


def first_lifted(cloth, gone):
    """Return what is lifted, in the rest, with the first thread with which not all are lifted, or None."""
    rest = rest_without(cloth, gone)
    for thread in rest:
        raised = lifted_without(cloth, gone, (thread,))
        if len(raised) < len(rest):
            return raised
    return None


def is_lifted_off(cloth, gone, threads):
    """Tell whether unlike threads of the rest can be lifted off the others of it."""
    if not 0 < len(threads) < len(rest_without(cloth, gone)):
        return False
    return len(lifted_without(cloth, gone, threads)) == len(threads)
