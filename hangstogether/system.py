"""Sessions: cloths and drafts by their names, and lines that are answered."""

from hangstogether.checks import check_cloth, check_draft
from hangstogether.drafts import drawn, needs
from hangstogether.errors import CommandError
from hangstogether.limits import MAX_ENDS, MAX_PICKS, MAX_SHAFTS, MAX_STITCHES
from hangstogether.replies import line_with, made_by, reply_to
from hangstogether.tokens import is_name, is_numeral
from hangstogether.words import read_cloth, read_draft

# The words behind the first word of a line. NEW stands last, and something is kept then.
_FORMS = {
    "cloth": ("CLOTH",),
    "draft": ("DRAFT",),
    "show": ("CLOTH",),
    "weave": ("DRAFT", "NEW"),
    "draw": ("CLOTH", "NEW"),
    "needs": ("CLOTH",),
    "treadles": ("CLOTH",),
    "layers": ("CLOTH",),
    "hangs": ("CLOTH",),
    "strength": ("CLOTH",),
    "weak": ("CLOTH",),
    "stitches": ("CLOTH", "MOST"),
    "float": ("CLOTH",),
    "bends": ("CLOTH",),
    "family": ("CLOTH",),
    "lattice": ("CLOTH",),
    "same": ("CLOTH", "CLOTH"),
    "switches": ("CLOTH", "CLOTH"),
    "repeat": ("CLOTH", "NEW"),
    "beside": ("CLOTH", "CLOTH", "NEW"),
    "behind": ("CLOTH", "CLOTH", "NEW"),
    "stack": ("CLOTH", "CLOTH", "NEW"),
    "piece": ("CLOTH", "PICK", "END", "PICKS", "ENDS", "NEW"),
    "turn": ("CLOTH", "DIGIT", "DIGIT", "DIGIT", "DIGIT", "PICK", "END", "NEW"),
    "near": ("CLOTH", "SHAFTS"),
    "faults": ("DRAFT", "CLOTH"),
    "steps": ("DRAFT",),
    "pegs": ("DRAFT",),
    "contrast": ("CLOTH",),
}


def _range_of(form):
    """Return the least and the greatest number that a numeral may tell."""
    ranges = {
        "MOST": (0, MAX_STITCHES),
        "PICK": (0, MAX_PICKS),
        "END": (0, MAX_ENDS),
        "PICKS": (1, MAX_PICKS),
        "ENDS": (1, MAX_ENDS),
        "DIGIT": (0, 1),
        "SHAFTS": (1, MAX_SHAFTS),
    }
    return ranges[form]


def _number_told(form, word):
    """Return the number that a word tells, or None if it is no such numeral."""
    least, most = _range_of(form)
    if not is_numeral(word) or not least <= int(word) <= most:
        return None
    return int(word)


def _check_name(name):
    if not isinstance(name, str) or not is_name(name):
        raise CommandError(name)


class Session:
    """Keeps cloths and drafts by their names, and the lines that it has answered."""

    def __init__(self):
        self._cloths = {}
        self._drafts = {}
        self._lines = []

    def __len__(self):
        return len(self._lines)

    def __iter__(self):
        return iter(self._lines)

    def load_cloth(self, name, text):
        """Read a cloth, check it and keep it under a name."""
        _check_name(name)
        cloth = read_cloth(text)
        check_cloth(cloth)
        self._cloths[name] = cloth

    def load_draft(self, name, text):
        """Read a draft, check it and keep it under a name."""
        _check_name(name)
        draft = read_draft(text)
        check_draft(draft)
        self._drafts[name] = draft

    def answer(self, line):
        """Return the lines that answer a line."""
        if not isinstance(line, str):
            raise CommandError(line)
        word, *words = line.split(" ")
        if word not in _FORMS or len(words) != len(_FORMS[word]):
            raise CommandError(line)
        told = [self._told_by(form, part) for form, part in zip(_FORMS[word], words)]
        if None in told:
            raise CommandError(line)
        lines = self._keep(word, told) if _FORMS[word][-1] == "NEW" else reply_to(word, told)
        self._lines.extend(lines)
        return tuple(lines)

    def _told_by(self, form, word):
        """Return what a word tells that must have a form, or None if it has not."""
        if form == "CLOTH":
            return self._cloths.get(word)
        if form == "DRAFT":
            return self._drafts.get(word)
        if form == "NEW":
            return word if is_name(word) else None
        return _number_told(form, word)

    def _keep(self, word, told):
        """Keep what a line makes under the name that it tells last, and return the lines that answer it."""
        *parts, name = told
        if word == "draw":
            self._drafts[name] = drawn(parts[0])
            shafts, treadles = needs(parts[0])
            return [f"shafts {shafts} treadles {treadles}"]
        cloth = made_by(word, parts)
        self._cloths[name] = cloth
        return [line_with("size", [len(cloth), len(cloth[0])])]
