"""The interface: each name is defined in its own file, with the arguments that are told."""

import ast
import importlib
import pathlib
import unittest

FUNCTIONS = {
    "checks": ("check_cloth(cloth)", "check_draft(draft)", "is_cloth(value)", "is_draft(value)"),
    "words": ("read_cloth(text)", "read_draft(text)", "write_cloth(cloth)", "write_draft(draft)"),
    "drafts": (
        "woven(draft)", "tidy(draft)", "turned_draft(draft)", "needs(cloth)", "drawn(cloth)",
        "reordered(draft, shafts, treadles)",
    ),
    "pressing": ("fewest_treadles(cloth)", "accept_treadles(cloth, told)"),
    "layers": (
        "lifted_with(cloth, threads)", "can_be_lifted(cloth, threads)", "layers(cloth)", "parted(cloth)",
        "hangs_together(cloth)", "falls_by_sums(cloth)", "accept_together(cloth, told)",
    ),
    "cutting": (
        "apart_without(cloth, gone)", "weak_threads(cloth)", "most_chains(cloth, start, end)",
        "accept_chains(cloth, start, end, told)", "strength(cloth)", "accept_strength(cloth, told)",
    ),
    "floats": (
        "floats(cloth)", "longest(cloth)", "face_of(cloth)", "interlacings(cloth)", "too_long(cloth, most)",
    ),
    "colours": (
        "picture(cloth, plan)", "picture_behind(cloth, plan)", "plan_of(cloth, rows)", "tallies(cloth, rows)",
        "nearest(cloth, rows)", "accept_plan_of(cloth, rows, told)", "accept_nearest(cloth, rows, told)",
    ),
    "pictures": ("weave_picture(rows, known)", "accept_picture(rows, known, told)"),
    "contrast": ("fewest_colours(cloth, pairs)", "accept_colours(cloth, pairs, told)"),
    "turns": (
        "reduced(cloth)", "normal(cloth)", "symmetries(cloth)", "classes(cloth)", "is_even(cloth)",
        "turned(cloth, turn)", "compare(first, second)", "accept_compare(first, second, told)",
    ),
    "blocks": (
        "blocked(profile, units)", "parted(cloth, picks, ends)", "profile_of(cloth, units)",
        "accept_profile(cloth, units, told)", "shortest(cloth)",
    ),
    "doubling": (
        "stacked(cloths)", "stitched(cloths, stitches)", "unstacked(cloth, count)", "loosest(cloth)",
        "folded(cloth)",
    ),
    "families": (
        "twill(parts, step)", "satin_steps(ends)", "satins(ends)", "satin(ends, step)", "twill_step(cloth)",
        "accept_twill_step(cloth, told)", "family(cloth)",
    ),
    "counting": (
        "piece_table(picks, ends, most)", "pieces(picks, ends, most)",
        "accept_piece_table(picks, ends, most, table)", "up_to_moves(picks, ends)",
    ),
    "faults": ("faults(draft, cloth, most)", "accept_faults(draft, cloth, most, told)"),
    "yarn": (
        "bends(cloth)", "lengths(cloth, measures)", "amounts(cloth, plan, measures, repeats)",
        "whole_cones(length, cone)", "cone_table(rows, cones)", "wound(rows, cones)",
        "accept_cone_table(rows, cones, table)", "costs(rows, price)",
    ),
    "looms": (
        "change(first, second, prices)", "least_order(jobs, prices)", "order_table(jobs, prices)",
        "accept_order_table(jobs, prices, table)", "cost_of_order(jobs, prices, names)",
    ),
    "steps": (
        "fewest_steps(draft)", "step_table(draft)", "accept_step_table(draft, table)", "steps_of(draft, ways)",
    ),
    "pegs": (
        "plan_of(draft)", "period(plan)", "joined(first, second)", "shortest(plan)", "chain_table(plan)",
        "accept_chain_table(plan, table)", "unrolled(chain)", "size(chain)",
    ),
    "sums": (
        "sums_of(cloth)", "with_sums(ends, picks)", "accept_sums(ends, picks, told)", "switched(cloth, switches)",
        "switches_between(first, second)",
    ),
    "tiles": (
        "shifted(cloth, picks, ends)", "repeats(cloth)", "least_repeat(cloth)", "lattice(cloth)",
        "piece(cloth, pick, end, picks, ends)", "same_endless(first, second)", "found_at(cloth, pattern)",
        "beside(first, second)", "behind(first, second)",
    ),
    "weaving": ("rewoven(draft, log)",),
    "nearest": (
        "nearest(cloth, shafts)", "near_table(cloth, shafts)", "accept_near_table(cloth, shafts, table)",
        "unlike_crossings(first, second)",
    ),
    "rethreading": ("rethread(now, wanted, shafts)", "accept_rethread(now, wanted, shafts, told)"),
    "tablets": (
        "band(cards, turns)", "twist(cards, turns)", "untwisting(cards, turns)", "turns_for(cards, picture)",
        "turn_table(cards, picture)", "accept_turn_table(cards, picture, table)",
    ),
    "stitching": ("fewest_stitches(cloth, most)", "accept_stitches(cloth, most, told)", "least_needed(cloth)"),
    "holders": (
        "fewest_loads(colours, holders)", "load_table(colours, holders)",
        "accept_load_table(colours, holders, table)", "by_rule(colours, holders)",
        "loads_of(colours, holders, held)",
    ),
    "shuttles": (
        "throws_for(boxes, places, throws)", "throw_table(boxes, places, throws)",
        "accept_throw_table(boxes, places, throws, table)", "moves_of(boxes, places, throws, free)",
    ),
    "edges": (
        "best_starts(cloth, wefts)", "accept_starts(cloth, wefts, told)", "loose_turns(cloth, wefts, starts)",
        "with_floating(cloth, wefts, starts)", "joins(wefts)",
    ),
    "papers": (
        "write_answer(told)", "write_strength(told)", "read_answer(text)", "read_strength(text)", "is_answer(text)",
    ),
    "shades": (
        "units(ends, step)", "shades_of(rows, ends)", "carried(rows, ends)", "shaded(shades, ends, step)",
        "measured(cloth, picks, ends)",
    ),
    "draws": (
        "fewest_runs(threading, shafts)", "run_table(threading, shafts)",
        "accept_run_table(threading, shafts, table)", "threaded(runs, shafts)",
    ),
}
CLASSES = {
    "system": {"Session": (
        "__init__(self)", "__len__(self)", "__iter__(self)", "load_cloth(self, name, text)",
        "load_draft(self, name, text)", "answer(self, line)",
    )},
    "weaving": {"Loom": (
        "__init__(self, draft)", "weave(self, picks)", "undo(self, picks)", "snap(self, end)", "mend(self, end, shaft)",
        "stick(self, shaft, above)", "free(self, shaft)", "cut(self)", "woven(self)", "pieces(self)",
        "threading(self)", "faults(self)", "log(self)",
    )},
}
FOLDER = pathlib.Path(__file__).parent.parent / "hangstogether"


class InterfaceTest(unittest.TestCase):
    def test_functions(self):
        for module, functions in FUNCTIONS.items():
            tree = ast.parse((FOLDER / (module + ".py")).read_text())
            defined = {
                f"{node.name}({ast.unparse(node.args)})" for node in tree.body if isinstance(node, ast.FunctionDef)
            }
            for function in functions:
                self.assertIn(function, defined)
            loaded = importlib.import_module("hangstogether." + module)
            for function in functions:
                self.assertTrue(callable(getattr(loaded, function.split("(")[0])))

    def test_classes(self):
        for module, classes in CLASSES.items():
            tree = ast.parse((FOLDER / (module + ".py")).read_text())
            nodes = {node.name: node for node in tree.body if isinstance(node, ast.ClassDef)}
            for name, methods in classes.items():
                defined = {
                    f"{node.name}({ast.unparse(node.args)})"
                    for node in nodes[name].body if isinstance(node, ast.FunctionDef)
                }
                self.assertLessEqual(set(methods), defined)
                self.assertTrue(callable(getattr(importlib.import_module("hangstogether." + module), name)))
