"""What a session replies to its lines, and the cloths that lines make."""

from hangstogether.contrast import fewest_colours
from hangstogether.cutting import strength, weak_threads
from hangstogether.doubling import stacked
from hangstogether.drafts import needs, woven
from hangstogether.families import family
from hangstogether.faults import faults
from hangstogether.floats import longest
from hangstogether.layers import hangs_together, layers
from hangstogether.limits import MAX_FAULTS
from hangstogether.nearest import nearest
from hangstogether.pegs import plan_of, shortest
from hangstogether.pressing import fewest_treadles
from hangstogether.steps import fewest_steps
from hangstogether.stitching import fewest_stitches
from hangstogether.sums import switches_between
from hangstogether.tiles import behind, beside, lattice, least_repeat, piece
from hangstogether.turns import compare, turned
from hangstogether.words import signs_of, write_cloth, write_draft
from hangstogether.yarn import bends


def line_with(word, parts):
    """Return the line of a word and numbers, None and words behind it."""
    return " ".join([word, *["none" if part is None else str(part) for part in parts]])


def _threads(word, threads):
    return line_with(word, [_thread(thread) for thread in threads])


def _thread(thread):
    kind, number = thread
    return f"{kind[0]}{number}"


def _number_of(word, found):
    """Return the line of a word and of how many parts were found, or of nothing found."""
    return "none" if found is None else line_with(word, [len(found)])


def _to_cloth(cloth):
    return write_cloth(cloth).splitlines()


def _to_draft(draft):
    return write_draft(draft).splitlines()


def _to_show(cloth):
    return [signs_of(row) for row in cloth]


def _to_needs(cloth):
    return [line_with("needs", needs(cloth))]


def _to_treadles(cloth):
    return [line_with("treadles", fewest_treadles(cloth)[:1])]


def _to_layers(cloth):
    return [_threads("layer", layer) for layer in layers(cloth)]


def _to_hangs(cloth):
    word, threads = hangs_together(cloth)
    return [word if word == "together" else _threads(word, threads)]


def _to_strength(cloth):
    return [line_with("strength", strength(cloth)[:1])]


def _to_weak(cloth):
    return [_threads("weak", [thread for thread, _ in weak_threads(cloth)])]


def _to_stitches(cloth, most):
    return [_number_of("stitches", fewest_stitches(cloth, most))]


def _to_float(cloth):
    length, (thread, place, _, side) = longest(cloth)
    return [line_with("float", [length, _thread(thread), place, side])]


def _to_bends(cloth):
    return [line_with("bends", bends(cloth))]


def _to_family(cloth):
    word, *parts = family(cloth)
    if word == "twill":
        lengths, step = parts
        parts = [step, *lengths]
    return [line_with(word, parts)]


def _to_lattice(cloth):
    return [line_with("lattice", lattice(cloth))]


def _to_same(first, second):
    word, *parts = compare(first, second)
    if word == "unlike":
        return [word]
    way, picks, ends = parts[0]
    return [line_with(word, [*way, picks, ends])]


def _to_switches(first, second):
    return ["unlike" if switches_between(first, second) is None else "linked"]


def _to_near(cloth, shafts):
    return [line_with("wrong", nearest(cloth, shafts)[:1])]


def _to_faults(draft, cloth):
    word, *parts = faults(draft, cloth, MAX_FAULTS)
    return [_number_of("faults", parts[0] if word == "found" else None)]


def _to_steps(draft):
    return [line_with("steps", fewest_steps(draft)[:1])]


def _to_pegs(draft):
    return [line_with("pegs", shortest(plan_of(draft))[:1])]


def _to_contrast(cloth):
    pairs = tuple([((0, end - 1), (0, end)) for end in range(1, len(cloth[0]))])
    found = fewest_colours(cloth, pairs)
    return ["none" if found is None else line_with("colours", found[:1])]


_REPLIES = {
    "cloth": _to_cloth,
    "draft": _to_draft,
    "show": _to_show,
    "needs": _to_needs,
    "treadles": _to_treadles,
    "layers": _to_layers,
    "hangs": _to_hangs,
    "strength": _to_strength,
    "weak": _to_weak,
    "stitches": _to_stitches,
    "float": _to_float,
    "bends": _to_bends,
    "family": _to_family,
    "lattice": _to_lattice,
    "same": _to_same,
    "switches": _to_switches,
    "near": _to_near,
    "faults": _to_faults,
    "steps": _to_steps,
    "pegs": _to_pegs,
    "contrast": _to_contrast,
}


def reply_to(word, told):
    """Return the lines that answer a line with this first word, of which nothing is kept."""
    reply = _REPLIES[word]
    return reply(*told)


def made_by(word, told):
    """Return the cloth that a line with this first word makes."""
    match word:
        case "weave":
            return woven(*told)
        case "repeat":
            return least_repeat(*told)
        case "beside":
            return beside(*told)
        case "behind":
            return behind(*told)
        case "stack":
            return stacked(tuple(told))
        case "piece":
            return piece(*told)
        case "turn":
            cloth, a, b, c, d, picks, ends = told
            return turned(cloth, ((a, b, c, d), picks, ends))
