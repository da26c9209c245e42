"""Pictures that are shown by some cloth, or by none."""

from hangstogether.checks import is_cloth
from hangstogether.colours import is_plan, picture
from hangstogether.crossings import are_colours, is_colour
from hangstogether.errors import ArgumentError, PaperError
from hangstogether.kinds import begins, is_number, is_row
from hangstogether.limits import MAX_ENDS, MAX_PICKS
from hangstogether.threads import is_thread, threads_of
from hangstogether.ways import shortest_way


class Sight:
    """What the threads of a picture meet, and what follows from a claim."""

    def __init__(self, rows, known):
        # For each thread the colours that it meets; for each of these the threads at such crossings.
        self.others = {thread: {} for thread in threads_of(rows)}
        # The threads and colours for which a crossing is known to show the thread in this colour.
        self.sure = {}
        for pick, row in enumerate(rows):
            for end, colour in enumerate(row):
                self.meet(("end", end), ("pick", pick), colour, known[pick][end] == 1)
                self.meet(("pick", pick), ("end", end), colour, known[pick][end] == 0)

    def meet(self, thread, other, colour, sure):
        """Note a crossing of two threads, and whether it is sure that it shows the first one."""
        self.others[thread].setdefault(colour, []).append(other)
        if sure:
            self.sure[(thread, colour)] = True

    def follow(self, claim):
        """Return the claims that follow at once from a claim."""
        kind, number, colour, holds = claim
        met = self.others[(kind, number)]
        if holds:
            return [(kind, number, other, False) for other in met if other != colour]
        found = [(sort, place, colour, True) for sort, place in met.get(colour, [])]
        if ((kind, number), colour) in self.sure:
            found.append((kind, number, colour, True))
        return found


def _opposite(claim):
    kind, number, colour, holds = claim
    return kind, number, colour, not holds


def _check_arguments(rows, known):
    if not _is_picture(rows):
        raise ArgumentError("picture")
    if not is_row(known, len(rows)) or not all([_is_known(row, len(rows[0])) for row in known]):
        raise ArgumentError("known")


def _is_picture(rows):
    if not isinstance(rows, tuple) or not 1 <= len(rows) <= MAX_PICKS:
        return False
    if not isinstance(rows[0], tuple) or not 1 <= len(rows[0]) <= MAX_ENDS:
        return False
    return all([are_colours(row, len(rows[0])) for row in rows])


def _is_known(row, count):
    return is_row(row, count) and all([part is None or is_number(part, 0, 1) for part in row])


def weave_picture(rows, known):
    """Return a cloth and a plan that show a picture, or two chains of claims that bar them."""
    _check_arguments(rows, known)
    sight = Sight(rows, known)
    settled = {}
    for thread in threads_of(rows):
        for colour in sight.others[thread]:
            claim = (*thread, colour, True)
            if claim in settled or _opposite(claim) in settled:
                continue
            found = _outcome(sight, settled, claim) or _outcome(sight, settled, _opposite(claim))
            if found is None:
                return "chains", _chain(sight, claim), _chain(sight, _opposite(claim))
            for further in found:
                settled[further] = True
    plan = _plan_from(rows, settled)
    return "cloth", _cloth_with(rows, known, plan), plan


def _outcome(sight, settled, claim):
    """Return all that follows from a claim and is not settled yet, or None if it contradicts itself."""
    found = {claim: True}
    waiting = [claim]
    while waiting:
        reason = waiting.pop()
        for further in sight.follow(reason):
            if _opposite(further) in found:
                return None
            if further not in found and further not in settled:
                found[further] = True
                waiting.append(further)
    return found


def _chain(sight, claim):
    return tuple(shortest_way(claim, _opposite(claim), sight.follow))


def _plan_from(rows, settled):
    """Return the plan of the colours that threads have; one that needs none has the first that it meets."""
    chosen = {(kind, number): colour for kind, number, colour, holds in settled if holds}
    warp = tuple([chosen.get(("end", end), colour) for end, colour in enumerate(rows[0])])
    weft = tuple([chosen.get(("pick", pick), row[0]) for pick, row in enumerate(rows)])
    return warp, weft


def _cloth_with(rows, known, plan):
    warp = plan[0]
    return tuple([
        tuple([
            known[pick][end] if known[pick][end] is not None else int(warp[end] == colour)
            for end, colour in enumerate(row)
        ])
        for pick, row in enumerate(rows)
    ])


def accept_picture(rows, known, told):
    """Raise PaperError unless a value is a right answer of weave_picture."""
    _check_arguments(rows, known)
    if begins(told, 3, "cloth"):
        _accept_cloth(rows, known, told[1], told[2])
    elif begins(told, 3, "chains"):
        _accept_chains(rows, known, told[1], told[2])
    else:
        raise PaperError("form")


def _accept_cloth(rows, known, cloth, plan):
    if not is_cloth(cloth) or not _has_known(cloth, known):
        raise PaperError("cloth")
    if not is_plan(cloth, plan) or picture(cloth, plan) != rows:
        raise PaperError("plan")


def _has_known(cloth, known):
    if len(cloth) != len(known) or len(cloth[0]) != len(known[0]):
        return False
    parts = [(part, wanted) for row, other in zip(cloth, known) for part, wanted in zip(row, other)]
    return all([wanted is None or part == wanted for part, wanted in parts])


def _accept_chains(rows, known, first, second):
    sight = Sight(rows, known)
    if not _is_chain(rows, sight, first) or not _is_chain(rows, sight, second):
        raise PaperError("chain")
    if first[-1] != _opposite(first[0]) or second[0] != first[-1] or second[-1] != first[0]:
        raise PaperError("ends")


def _is_chain(rows, sight, value):
    if not isinstance(value, tuple) or len(value) < 2 or not all([_is_claim(rows, part) for part in value]):
        return False
    return all([further in sight.follow(claim) for claim, further in zip(value, value[1:])])


def _is_claim(rows, value):
    if not is_row(value, 4) or not is_thread(rows, value[:2]):
        return False
    return is_colour(value[2]) and isinstance(value[3], bool)
