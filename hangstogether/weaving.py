"""A loom at work: it weaves by a draft, while ends break and shafts stick."""

from hangstogether.errors import ArgumentError, LogError, LoomError
from hangstogether.kinds import is_number
from hangstogether.limits import MAX_LOG, MAX_SHAFTS, MAX_WOVEN
from hangstogether.pegs import plan_of

# How many parts the entries of a log have, by their first parts.
_PARTS = {"weave": 2, "undo": 2, "break": 2, "mend": 3, "stick": 3, "free": 2, "cut": 1}


class Loom:
    """Weaves by a draft, pick by pick, its treadling going round."""

    def __init__(self, draft):
        self._plan = plan_of(draft)
        self._wanted = draft[0]
        self._shafts = list(draft[0])
        self._broken = [False for _ in draft[0]]
        # The side of each shaft that sticks: 1 for up, 0 for down.
        self._stuck = {}
        self._rows = []
        self._cut_off = []
        self._deeds = []

    def weave(self, picks):
        """Weave so many picks and return their rows."""
        if not is_number(picks, 1, MAX_WOVEN):
            raise LoomError("picks")
        first = len(self._rows)
        if first + picks > MAX_WOVEN:
            raise LoomError("long")
        rows = [self._row_of(number) for number in range(first, first + picks)]
        self._rows.extend(rows)
        self._deeds.append(("weave", picks))
        return tuple(rows)

    def undo(self, picks):
        """Take the last rows off again and return them, the last one first."""
        if not is_number(picks, 1, len(self._rows)):
            raise LoomError("picks")
        rows = self._rows[-picks:]
        del self._rows[-picks:]
        self._deeds.append(("undo", picks))
        return tuple(rows[::-1])

    def snap(self, end):
        """Break an end."""
        if not self._is_end(end, False):
            raise LoomError("end")
        self._broken[end] = True
        self._deeds.append(("break", end))

    def mend(self, end, shaft):
        """Mend a broken end and put it on a shaft."""
        if not self._is_end(end, True):
            raise LoomError("end")
        if not _is_shaft(shaft):
            raise LoomError("shaft")
        self._broken[end] = False
        self._shafts[end] = shaft
        self._deeds.append(("mend", end, shaft))

    def stick(self, shaft, above):
        """Let a shaft stick, up for 1 and down for 0."""
        if not _is_shaft(shaft) or shaft in self._stuck:
            raise LoomError("shaft")
        if not is_number(above, 0, 1):
            raise LoomError("side")
        self._stuck[shaft] = above
        self._deeds.append(("stick", shaft, above))

    def free(self, shaft):
        """Let a shaft stick no longer."""
        if not _is_shaft(shaft) or shaft not in self._stuck:
            raise LoomError("shaft")
        del self._stuck[shaft]
        self._deeds.append(("free", shaft))

    def cut(self):
        """Cut off the rows on the loom and return them."""
        if not self._rows:
            raise LoomError("empty")
        rows = self.woven()
        self._cut_off.append(rows)
        self._rows = []
        self._deeds.append(("cut",))
        return rows

    def woven(self):
        """Return the rows on the loom."""
        return tuple(self._rows)

    def pieces(self):
        """Return what was cut off, in order."""
        return tuple(self._cut_off)

    def threading(self):
        """Return the shafts of the ends as they are now; a broken end is told by the shaft on which it was."""
        return tuple(self._shafts)

    def faults(self):
        """Return the places of the rows on the loom that are not as the draft says."""
        return tuple([
            (pick, end) for pick, row in enumerate(self._rows) for end, part in enumerate(row)
            if part != self._lifted(pick, self._wanted[end])
        ])

    def log(self):
        """Return all deeds that were done, in order."""
        return tuple(self._deeds)

    def _is_end(self, value, broken):
        """Tell whether a value is the number of an end that is broken, or of one that is not."""
        return is_number(value, 0, len(self._broken) - 1) and self._broken[value] == broken

    def _lifted(self, pick, shaft):
        """Return 1 if a shaft is lifted for a pick, otherwise 0."""
        return 1 if shaft in self._plan[pick % len(self._plan)] else 0

    def _row_of(self, pick):
        return tuple([self._part_of(pick, end) for end in range(len(self._shafts))])

    def _part_of(self, pick, end):
        if self._broken[end]:
            return None
        shaft = self._shafts[end]
        return self._stuck[shaft] if shaft in self._stuck else self._lifted(pick, shaft)


def _is_shaft(value):
    return is_number(value, 0, MAX_SHAFTS - 1)


def rewoven(draft, log):
    """Return a loom on which the deeds of a log are done."""
    loom = Loom(draft)
    if not isinstance(log, tuple) or len(log) > MAX_LOG:
        raise ArgumentError("log")
    for number, entry in enumerate(log):
        if not _is_entry(entry):
            raise LogError(number, "entry")
        try:
            _do(loom, entry)
        except LoomError as error:
            raise LogError(number, error.reason) from None
    return loom


def _is_entry(value):
    if not isinstance(value, tuple) or value == () or not isinstance(value[0], str):
        return False
    return len(value) == _PARTS.get(value[0], 0)


def _do(loom, entry):
    """Do on a loom the deed that an entry of a log tells."""
    word, *told = entry
    match word:
        case "weave":
            loom.weave(*told)
        case "undo":
            loom.undo(*told)
        case "break":
            loom.snap(*told)
        case "mend":
            loom.mend(*told)
        case "stick":
            loom.stick(*told)
        case "free":
            loom.free(*told)
        case "cut":
            loom.cut()
