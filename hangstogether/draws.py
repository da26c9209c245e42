"""Threadings that are told by runs of ends on neighbouring shafts."""

from hangstogether.checks import is_threading
from hangstogether.errors import ArgumentError, PaperError
from hangstogether.kinds import is_integer, is_number, is_row
from hangstogether.limits import MAX_ENDS, MAX_SHAFTS

# In the order in which the directions are asked for.
_STEPS = {"up": 1, "down": -1, "same": 0}


def _check_shafts(shafts):
    if not is_number(shafts, 1, MAX_SHAFTS):
        raise ArgumentError("shafts")


def _check_threading(threading, shafts):
    _check_shafts(shafts)
    if not is_threading(threading, shafts):
        raise ArgumentError("threading")


def _is_run(value, shafts):
    if not is_row(value, 3):
        return False
    shaft, word, count = value
    if not isinstance(word, str) or word not in _STEPS:
        return False
    return is_number(shaft, 0, shafts - 1) and is_number(count, 1, MAX_ENDS)


def threaded(runs, shafts):
    """Return the threading that runs make, one behind the other."""
    _check_shafts(shafts)
    if not isinstance(runs, tuple) or not all([_is_run(run, shafts) for run in runs]):
        raise ArgumentError("runs")
    if not 1 <= sum([count for _, _, count in runs]) <= MAX_ENDS:
        raise ArgumentError("runs")
    return tuple([
        (shaft + place * _STEPS[word]) % shafts for shaft, word, count in runs for place in range(count)
    ])


def _length_of(threading, shafts, first, step):
    """Return how many ends from the first one on are on shafts that follow one another by a step."""
    count = 1
    while first + count < len(threading) and threading[first + count] == (threading[first] + count * step) % shafts:
        count += 1
    return count


def _longest_run(threading, shafts, first):
    """Return the longest run that begins with an end, in the first direction in which it is so long."""
    counts = [_length_of(threading, shafts, first, step) for step in _STEPS.values()]
    longest = max(counts)
    return threading[first], list(_STEPS)[counts.index(longest)], longest


def fewest_runs(threading, shafts):
    """Return the fewest runs that make a threading, each one as long as can be."""
    _check_threading(threading, shafts)
    runs = []
    first = 0
    while first < len(threading):
        runs.append(_longest_run(threading, shafts, first))
        first += runs[-1][2]
    return tuple(runs)


def run_table(threading, shafts):
    """Return for each end, and behind the last one, the fewest runs from there on."""
    _check_threading(threading, shafts)
    # The entries from the last one on to the first one.
    entries = [0]
    for first in reversed(range(len(threading))):
        count = _longest_run(threading, shafts, first)[2]
        entries.append(1 + min(entries[-count:]))
    return tuple(entries[::-1])


def accept_run_table(threading, shafts, table):
    """Raise PaperError unless a value is the table of a threading."""
    _check_threading(threading, shafts)
    if not is_row(table, len(threading) + 1) or not all([is_integer(part) for part in table]):
        raise PaperError("form")
    if table != run_table(threading, shafts):
        raise PaperError("entry")
