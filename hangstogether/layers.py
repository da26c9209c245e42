"""What lies above what in a cloth, and whether it hangs together."""

from hangstogether.checks import check_cloth
from hangstogether.errors import ArgumentError, PaperError
from hangstogether.kinds import is_row
from hangstogether.threads import (
    are_threads,
    are_unlike_threads,
    climbs,
    first_lifted,
    is_lifted_off,
    lifted_without,
    threads_above,
    threads_of,
)
from hangstogether.ways import shortest_way


def lifted_with(cloth, threads):
    """Return all threads that must be lifted when some are."""
    _check_threads(cloth, threads)
    return lifted_without(cloth, (), threads)


def can_be_lifted(cloth, threads):
    """Tell whether threads are a set that can be lifted off the others."""
    _check_threads(cloth, threads)
    return is_lifted_off(cloth, (), threads)


def _check_threads(cloth, threads):
    check_cloth(cloth)
    if not are_unlike_threads(cloth, threads):
        raise ArgumentError("threads")


def layers(cloth):
    """Return the layers of a cloth, each one behind those that are lifted with it."""
    check_cloth(cloth)
    # Threads of one layer are those with which the same threads are lifted.
    groups = {}
    for thread in threads_of(cloth):
        groups.setdefault(lifted_without(cloth, (), (thread,)), []).append(thread)
    found = [(len(raised), tuple(group)) for raised, group in groups.items()]
    return tuple([layer for _, layer in sorted(found)])


def parted(cloth):
    """Return for each layer the pair of it and the cloth that its threads make, or None."""
    return tuple([(layer, _cloth_of(cloth, layer)) for layer in layers(cloth)])


def _cloth_of(cloth, layer):
    ends = [number for kind, number in layer if kind == "end"]
    picks = [number for kind, number in layer if kind == "pick"]
    if not ends or not picks:
        return None
    return tuple([tuple([cloth[pick][end] for end in ends]) for pick in picks])


def hangs_together(cloth):
    """Return the pair of "together" and a chain, or of "apart" and threads that can be lifted off."""
    check_cloth(cloth)
    raised = first_lifted(cloth, ())
    if raised is not None:
        return "apart", raised
    return "together", _round_of(cloth)


def _round_of(cloth):
    """Return a chain of all threads that ends where it begins, for a cloth that hangs together."""
    first, *further = threads_of(cloth)
    chain = [first]
    for thread in further:
        if thread not in chain:
            chain.extend(_way_up(cloth, chain[-1], thread))
    chain.extend(_way_up(cloth, chain[-1], first))
    return tuple(chain)


def _way_up(cloth, start, goal):
    return shortest_way(start, goal, lambda thread: threads_above(cloth, thread))[1:]


def falls_by_sums(cloth):
    """Return the first numbers of uppermost ends and picks that can be lifted off, or None."""
    check_cloth(cloth)
    ends = sorted([sum(column) for column in zip(*cloth)], reverse=True)
    picks = sorted([row.count(0) for row in cloth], reverse=True)
    for many in range(len(ends) + 1):
        for count in range(len(picks) + 1):
            if 0 < many + count < len(ends) + len(picks) and _all_above(ends, picks, many, count):
                return many, count
    return None


def _all_above(ends, picks, many, count):
    """Tell by the sums whether the first ends and picks lie above all others that they cross."""
    sides = sum(ends[:many]) + sum(picks[:count])
    # Each crossing of two of these threads counts once, whichever of the two lies above there.
    return sides == many * len(picks) + count * len(ends) - many * count


def accept_together(cloth, told):
    """Raise PaperError unless a value is a right answer of hangs_together."""
    check_cloth(cloth)
    if not is_row(told, 2) or not (told[0] == "together" or told[0] == "apart"):
        raise PaperError("form")
    word, threads = told
    if not isinstance(threads, tuple) or threads == ():
        raise PaperError("form")
    if not are_threads(cloth, threads):
        raise PaperError("threads")
    if word == "apart" and not _is_apart(cloth, threads):
        raise PaperError("lifted")
    if word == "together" and not _is_round(cloth, threads):
        raise PaperError("chain")


def _is_apart(cloth, threads):
    return are_unlike_threads(cloth, threads) and is_lifted_off(cloth, (), threads)


def _is_round(cloth, chain):
    if chain[0] != chain[-1] or len(set(chain)) < len(threads_of(cloth)):
        return False
    return climbs(cloth, chain)
