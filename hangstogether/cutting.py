"""Cutting threads of a piece, and how many it takes before the rest falls apart."""

from hangstogether.chains import are_chains, is_pair, most_disjoint, pairs_of
from hangstogether.checks import check_cloth
from hangstogether.errors import ArgumentError, PaperError
from hangstogether.kinds import is_integer, is_number, is_row
from hangstogether.limits import MAX_PIECE
from hangstogether.threads import are_unlike_threads, first_lifted, is_lifted_off, lifted_without, threads_of


def _check_piece(cloth):
    check_cloth(cloth)
    if len(cloth) > MAX_PIECE or len(cloth[0]) > MAX_PIECE:
        raise ArgumentError("size")


def apart_without(cloth, gone):
    """Return the threads that can be lifted off the rest when some threads are cut away, or None."""
    _check_piece(cloth)
    if not are_unlike_threads(cloth, gone):
        raise ArgumentError("threads")
    return first_lifted(cloth, gone)


def weak_threads(cloth):
    """Return each thread by whose cutting alone the rest falls apart, with what can be lifted off then."""
    _check_piece(cloth)
    found = [(thread, first_lifted(cloth, (thread,))) for thread in threads_of(cloth)]
    return tuple([(thread, raised) for thread, raised in found if raised is not None])


def most_chains(cloth, start, end):
    """Return the greatest number of chains that share no thread, so many, and a cut of so many threads."""
    _check_piece(cloth)
    _check_pair(cloth, start, end)
    chains, cut = most_disjoint(cloth, start, end)
    return len(chains), chains, cut


def _check_pair(cloth, start, end):
    if not is_pair(cloth, start, end):
        raise ArgumentError("pair")


def accept_chains(cloth, start, end, told):
    """Raise PaperError unless a value is a right answer of most_chains."""
    _check_piece(cloth)
    _check_pair(cloth, start, end)
    if not is_row(told, 3) or not is_integer(told[0]) or not isinstance(told[2], tuple):
        raise PaperError("form")
    number, chains, cut = told
    if not are_chains(cloth, start, end, chains) or len(chains) != number:
        raise PaperError("chains")
    if not are_unlike_threads(cloth, cut) or len(cut) != number or not _parts(cloth, cut, start, end):
        raise PaperError("cut")


def _parts(cloth, cut, start, end):
    if start in cut or end in cut:
        return False
    return end not in lifted_without(cloth, cut, (start,))


def strength(cloth):
    """Return the strength, threads to cut, threads that can be lifted then, and the paper that no fewer do."""
    _check_piece(cloth)
    pairs = pairs_of(cloth)
    found = [most_disjoint(cloth, start, end) for start, end in pairs]
    number = min([len(cut) for _, cut in found])
    weakest = [len(cut) for _, cut in found].index(number)
    cut = found[weakest][1]
    lifted = lifted_without(cloth, cut, (pairs[weakest][0],))
    return number, cut, lifted, tuple([chains[:number] for chains, _ in found])


def accept_strength(cloth, told):
    """Raise PaperError unless a value is a right answer of strength."""
    _check_piece(cloth)
    pairs = pairs_of(cloth)
    if not is_row(told, 4) or not is_number(told[0], 0, MAX_PIECE):
        raise PaperError("form")
    number, cut, lifted, paper = told
    if not isinstance(cut, tuple) or not isinstance(lifted, tuple) or not is_row(paper, len(pairs)):
        raise PaperError("form")
    if not are_unlike_threads(cloth, cut) or len(cut) != number:
        raise PaperError("cut")
    if not are_unlike_threads(cloth, lifted) or not _is_lifted_off_rest(cloth, cut, lifted):
        raise PaperError("lifted")
    for (start, end), chains in zip(pairs, paper):
        if not are_chains(cloth, start, end, chains) or len(chains) != number:
            raise PaperError("chains")


def _is_lifted_off_rest(cloth, cut, lifted):
    if any([thread in cut for thread in lifted]):
        return False
    return is_lifted_off(cloth, cut, lifted)
