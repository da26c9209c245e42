"""What went wrong where a draft was woven and another cloth came about."""

from hangstogether.checks import check_cloth, check_draft
from hangstogether.errors import ArgumentError, PaperError, TooMany
from hangstogether.kinds import begins, is_integer, is_number, is_row
from hangstogether.limits import MAX_CHOICES, MAX_FAULTS


class Search:
    """A draft, the cloth that came about, and all that may have been done in another way."""

    def __init__(self, draft, cloth):
        threading, tieup, treadling = draft
        self.threading = threading
        self.treadling = treadling
        self.cloth = cloth
        self.shafts = sorted(set([*threading, *[shaft for shafts in tieup for shaft in shafts]]))
        self.lifted = {pressed: [shaft for treadle in pressed for shaft in tieup[treadle]] for pressed in treadling}

    def first_wrong(self, changes):
        """Return the first crossing that is wrong behind some changes, or None."""
        threading = list(self.threading)
        treadling = list(self.treadling)
        for kind, number, other in changes:
            if kind == "end":
                threading[number] = other
            else:
                treadling[number] = other
        for pick, row in enumerate(self.cloth):
            lifted = self.lifted[treadling[pick]]
            for end, part in enumerate(row):
                if (threading[end] in lifted) != (part == 1):
                    return pick, end
        return None

    def changes_of_end(self, end):
        """Return all changes of an end, in order."""
        return [("end", end, shaft) for shaft in self.shafts if shaft != self.threading[end]]

    def changes_of_pick(self, pick):
        """Return all changes of a pick, in order."""
        return [("pick", pick, pressed) for pressed in sorted(self.lifted) if pressed != self.treadling[pick]]

    def choices(self, changes):
        """Return the choices behind some changes that leave a crossing wrong."""
        pick, end = self.first_wrong(changes)
        changed = [change[:2] for change in changes]
        found = [] if ("end", end) in changed else self.changes_of_end(end)
        return found if ("pick", pick) in changed else found + self.changes_of_pick(pick)

    def enough(self, number):
        """Return the first changes, at most so many, that leave nothing wrong, or None."""
        looked_at = 0
        waiting = [()]
        while waiting:
            changes = waiting.pop()
            looked_at += 1
            if looked_at > MAX_CHOICES:
                raise TooMany("choices")
            if self.first_wrong(changes) is None:
                return changes
            if len(changes) < number:
                waiting += [(*changes, change) for change in reversed(self.choices(changes))]
        return None

    def paper(self, changes, number):
        """Return the paper that no so many more changes leave no crossing wrong."""
        if number == 0:
            return ()
        return tuple([self.paper((*changes, change), number - 1) for change in self.choices(changes)])

    def is_paper(self, changes, number, told):
        """Tell whether a value is the paper that no so many more changes leave no crossing wrong."""
        if not isinstance(told, tuple) or self.first_wrong(changes) is None:
            return False
        choices = [] if number == 0 else self.choices(changes)
        if len(told) != len(choices):
            return False
        for change, part in zip(choices, told):
            if not self.is_paper((*changes, change), number - 1, part):
                return False
        return True

    def are_changes(self, value, most):
        """Tell whether a value is at most so many changes of unlike threads, in order."""
        if not isinstance(value, tuple) or len(value) > most:
            return False
        if not all([self.is_change(part) for part in value]):
            return False
        threads = [change[:2] for change in value]
        return all([first < second for first, second in zip(threads, threads[1:])])

    def is_change(self, value):
        """Tell whether a value is a change."""
        if not is_row(value, 3):
            return False
        kind, number, other = value
        if kind == "end":
            if not is_number(number, 0, len(self.threading) - 1) or not is_integer(other):
                return False
            return value in self.changes_of_end(number)
        if kind != "pick" or not is_number(number, 0, len(self.treadling) - 1) or not isinstance(other, tuple):
            return False
        # A boolean is equal to an integer, but is no treadle.
        return all([is_integer(part) for part in other]) and value in self.changes_of_pick(number)


def _search(draft, cloth, most):
    check_draft(draft)
    check_cloth(cloth)
    if len(cloth) != len(draft[2]) or len(cloth[0]) != len(draft[0]):
        raise ArgumentError("cloth")
    if not is_number(most, 0, MAX_FAULTS):
        raise ArgumentError("most")
    return Search(draft, cloth)


def faults(draft, cloth, most):
    """Return the fewest changes by which a draft weaves a cloth, with the paper that one less is not enough."""
    search = _search(draft, cloth, most)
    for number in range(most + 1):
        changes = search.enough(number)
        if changes is not None:
            paper = search.paper((), number - 1) if changes else None
            return "found", tuple(sorted(changes)), paper
    return "none", search.paper((), most)


def accept_faults(draft, cloth, most, told):
    """Raise PaperError unless a value is a right answer of faults."""
    search = _search(draft, cloth, most)
    if begins(told, 3, "found"):
        _, changes, paper = told
        if not search.are_changes(changes, most) or search.first_wrong(changes) is not None:
            raise PaperError("changes")
        if not changes:
            if paper is not None:
                raise PaperError("paper")
        elif not search.is_paper((), len(changes) - 1, paper):
            raise PaperError("paper")
    elif begins(told, 2, "none"):
        if not search.is_paper((), most, told[1]):
            raise PaperError("paper")
    else:
        raise PaperError("form")
