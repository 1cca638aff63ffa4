"""The interface: each name stands in its file, is defined there, and takes its arguments by their names."""

import inspect
from importlib import import_module
from unittest import TestCase

FUNCTIONS = {
    "parts": ("parts(web)", "part_of(web, x)", "part_web(web, x)"),
    "sides": ("sides(web)", "odd_round(web, x)", "odd_round_right(web, x, cells)"),
    "squares": ("square_mate(web, y, x, z)",),
    "kinds": ("is_stout(web, x)", "kind(web, x)"),
    "ways": ("steps_apart(web, x)", "way(web, x, y)"),
    "plans": ("checked_plan(plan)",),
    "planwebs": ("web_of(plan)", "cell_at(plan, r, c)", "spot_of(plan, x)"),
    "reshaped": ("with_link(web, a, b)", "without_link(web, a, b)", "without_cell(web, x)"),
    "joined": ("with_corner(web, x, z)", "joined(one, two, doors)"),
    "tables": ("checked_table(coats, table)",),
    "floors": ("checked_floor(world, floor)", "stirs(world, floor, x)"),
    "deeds": ("deeds(world, floor)", "after(world, floor, deed)"),
    "runs": (
        "replayed(world, floor, run)", "trail(world, floor, run)", "run_right(world, one, other, run)",
        "turned_back(world, floor, run)",
    ),
    "chains": ("chain(world, p, r)", "widened(world, floor, run)"),
    "weighings": ("weigh(world, floor, weighing, modulus)",),
    "keepers": ("is_keeper(world, weighing, modulus)", "coat_keeper(world, x, coat)"),
    "keeperparts": ("keeper_parts(world, weighing, modulus)", "keeper_of(world, base, bends, modulus)"),
    "surplus": ("surplus(world, floor, x)", "odd_coats(world, floor, x)"),
    "cores": ("ring_row(web, x)", "core_of(row)"),
    "answers": ("answer(world, floor)", "same(world, one, two)"),
    "walkers": (
        "walker(web, stones)", "stepped(web, stones, step)", "walked(web, stones, steps)", "steps_back(web, stones, steps)",
        "is_smooth(web, stones, step)", "steps_right(web, stones, steps, goal)",
    ),
    "turns": ("turn(web, stones, stay, u, v)",),
    "exchanges": ("arranged(web, stones, goal)", "exchanged(web, stones, u, v)"),
    "walkdeeds": ("run_of_steps(world, floor, x, y, steps)",),
    "normals": ("normal(world, floor)",),
    "leads": ("lead_home(world, floor)", "lead(world, one, two)"),
    "papers": ("apart(world, one, two)", "apart_right(world, one, two, paper)"),
    "tallies": ("odd_count(n, coats)",),
    "surplusrows": ("surplus_count(light, dark, coats)",),
    "lots": ("side_lot(light, dark, surplus)", "odd_lot(n, coats, many)", "lot_size(web, coats, key)"),
    "lotorder": ("lot_floor(web, coats, key, n)", "lot_number(web, coats, floor)"),
    "ringtallies": ("core_count(n, coats)", "ring_lot(n, coats, core)"),
    "stills": ("still_count(web, coats)", "still_lot(web, coats, key)", "class_count(web, coats)", "class_size(world, floor)"),
    "floornumbers": ("floor_number(world, floor)", "floor_at(world, n)"),
    "classes": ("class_row(world)",),
    "shortest": ("far(world, floor)", "shortest(world, one, two)"),
    "ballcounts": ("ball(world, floor, n)", "runs_of(world, one, two, n)"),
    "loaded": ("loaded(web, floor)", "floor_of_load(web, cells)", "fits(web, one, two)"),
    "carriage": ("carriage(web, one, two)", "carriage_right(web, one, two, pairs)", "cost(web, pairs)", "carry(web, one, two)"),
    "heights": ("rise(web, one, two, levels)", "heights_right(web, one, two, n, levels)", "heights(web, one, two)"),
    "hops": ("hop_run(web, one, two)",),
    "merging": ("merged(world, floor, row)", "merge_bound(world, one, two)", "merge_row(world, one, two)"),
    "sums": ("split(world, floor)", "sum_answer(one, two, doors, first, second)"),
    "sayshouse": ("told(house, row)",),
    "webtext": ("web_text(web)", "web_from(text)"),
    "plantext": ("plan_text(plan)", "plan_from(text)"),
    "floortext": ("floor_text(plan, floor)", "floor_of(plan, text)"),
    "runtext": ("run_text(run)", "run_from(text)"),
}
CLASSES = {
    "errors": {"Refused": ("__init__(self, what)",)},
    "webs": {"Web": ("__init__(self, size, links)", "near(self, x)", "linked(self, x, y)")},
    "worlds": {"World": ("__init__(self, web, coats, *, table=None)",)},
    "house": {"House": (
        "__init__(self, web, coats, *, floor=None)", "floor(self)", "web(self)", "goal(self)", "record(self)", "trials(self)", "answer(self)",
        "can(self)", "paint(self, x, y, coat)", "lay(self, run)", "link(self, a, b)", "cut(self, a, b)", "aim(self, floor)", "undo(self)",
        "redo(self)", "begin(self)", "keep(self)", "drop(self)",
    )},
}


def told(name, thing):
    return name + str(inspect.signature(thing))


class Interface(TestCase):
    def test_functions(self):
        for file, rows in FUNCTIONS.items():
            module = import_module("pairfloors." + file)
            for row in rows:
                name = row.split("(")[0]
                thing = getattr(module, name)
                self.assertTrue(inspect.isfunction(thing))
                self.assertEqual((told(name, thing), thing.__module__), (row, "pairfloors." + file))

    def test_classes(self):
        for file, classes in CLASSES.items():
            module = import_module("pairfloors." + file)
            for name, rows in classes.items():
                thing = getattr(module, name)
                self.assertTrue(inspect.isclass(thing))
                self.assertEqual(thing.__module__, "pairfloors." + file)
                for row in rows:
                    method = row.split("(")[0]
                    self.assertEqual(told(method, vars(thing)[method]), row)
