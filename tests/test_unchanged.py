"""Nothing handed in is changed, and the same arguments are answered alike."""

from copy import deepcopy

from making import Case, full, grid, ring, side_by_side

from pairfloors.answers import answer, same
from pairfloors.ballcounts import ball, runs_of
from pairfloors.carriage import carriage, carriage_right, carry, cost
from pairfloors.chains import chain, widened
from pairfloors.classes import class_row
from pairfloors.cores import core_of, ring_row
from pairfloors.deeds import after, deeds
from pairfloors.errors import Refused
from pairfloors.exchanges import arranged, exchanged
from pairfloors.floornumbers import floor_at, floor_number
from pairfloors.floors import checked_floor, stirs
from pairfloors.floortext import floor_of, floor_text
from pairfloors.heights import heights, heights_right, rise
from pairfloors.hops import hop_run
from pairfloors.house import House
from pairfloors.joined import joined, with_corner
from pairfloors.keeperparts import keeper_of, keeper_parts
from pairfloors.keepers import coat_keeper, is_keeper
from pairfloors.kinds import is_stout, kind
from pairfloors.leads import lead, lead_home
from pairfloors.loaded import fits, floor_of_load, loaded
from pairfloors.lotorder import lot_floor, lot_number
from pairfloors.lots import lot_size, odd_lot, side_lot
from pairfloors.merging import merge_bound, merge_row, merged
from pairfloors.normals import normal
from pairfloors.papers import apart, apart_right
from pairfloors.parts import part_of, part_web, parts
from pairfloors.plans import checked_plan
from pairfloors.plantext import plan_from, plan_text
from pairfloors.planwebs import cell_at, spot_of, web_of
from pairfloors.reshaped import with_link, without_cell, without_link
from pairfloors.ringtallies import core_count, ring_lot
from pairfloors.runs import replayed, run_right, trail, turned_back
from pairfloors.runtext import run_from, run_text
from pairfloors.sayshouse import told
from pairfloors.shortest import far, shortest
from pairfloors.sides import odd_round, odd_round_right, sides
from pairfloors.squares import square_mate
from pairfloors.stills import class_count, class_size, still_count, still_lot
from pairfloors.sums import split, sum_answer
from pairfloors.surplus import odd_coats, surplus
from pairfloors.surplusrows import surplus_count
from pairfloors.tables import checked_table
from pairfloors.tallies import odd_count
from pairfloors.turns import turn
from pairfloors.walkers import is_smooth, stepped, steps_back, steps_right, walked, walker
from pairfloors.walkdeeds import run_of_steps
from pairfloors.ways import steps_apart, way
from pairfloors.webs import Web
from pairfloors.webtext import web_from, web_text
from pairfloors.weighings import weigh
from pairfloors.worlds import World

WEB = side_by_side(grid(2, 3), full(4), ring(5))
WORLD = World(WEB, 3, table=((0, 1), (1, 2)))
FLOOR = (0, 0, 1, 1, 2, 0) + (0, 1, 1, 2) + (0, 1, 2, 1, 2)
LESS = FLOOR[:6] + (0, 0, 0, 0) + FLOOR[10:]
RUN = ((0, 1, 1), (1, 2, 0), (7, 8, 2))
KEEPER = tuple((3, 2, 3) if x in (6, 7, 8, 9) else (x, x, x) for x in range(15))
SMALL, STONES, GOAL = grid(2, 3), (-1, -1, 2, 3, 4, 5), (4, -1, 2, 3, -1, 5)
STEPS = ((1, 2), (1, 4), (1, 0))
TINY = World(grid(2, 2), 3)
PLAN = (3, 3, 3, ((1, 1),), (((0, 0), (0, 2)), ((0, 0), (1, 0))))
CALLS = (
    (parts, WEB), (part_of, WEB, 7), (part_web, WEB, 7), (part_web, WEB, 0), (sides, WEB), (odd_round, WEB, 12),
    (odd_round_right, WEB, 6, (6, 7, 8)), (square_mate, WEB, 1, 0, 4), (is_stout, WEB, 0), (kind, WEB, 11),
    (steps_apart, WEB, 3), (way, WEB, 0, 5), (checked_plan, PLAN), (web_of, PLAN), (cell_at, PLAN, 2, 2),
    (spot_of, PLAN, 7), (with_link, WEB, 5, 6), (without_link, WEB, 1, 0), (without_cell, WEB, 4),
    (with_corner, WEB, 0, 2), (joined, WEB, WEB, ((3, 1), (0, 0))), (checked_table, 3, ((0, 1), (1, 2))),
    (checked_floor, WORLD, FLOOR), (stirs, WORLD, FLOOR, 0), (deeds, WORLD, FLOOR), (after, WORLD, FLOOR, (0, 1, 1)),
    (replayed, WORLD, FLOOR, RUN), (trail, WORLD, FLOOR, RUN), (run_right, WORLD, FLOOR, FLOOR, RUN),
    (turned_back, WORLD, FLOOR, RUN), (chain, WORLD, 0, 2), (widened, WORLD, FLOOR, ((0, 1, 2),)),
    (weigh, WORLD, FLOOR, KEEPER, 2), (is_keeper, WORLD, KEEPER, 2), (coat_keeper, WORLD, 7, 1), (surplus, WORLD, FLOOR, 4),
    (keeper_parts, WORLD, KEEPER, 2), (keeper_of, WORLD, tuple(range(15)), ((0, 1, 7), (0, 1, 1), (0, 0, 1)), 2),
    (odd_coats, WORLD, FLOOR, 7), (ring_row, WEB, 12), (core_of, FLOOR), (answer, WORLD, FLOOR), (same, WORLD, FLOOR, FLOOR),
    (walker, SMALL, STONES), (stepped, SMALL, STONES, (1, 4)), (walked, SMALL, STONES, STEPS), (turn, SMALL, STONES, 1, 2, 4),
    (steps_back, SMALL, STONES, STEPS), (is_smooth, SMALL, STONES, (1, 4)), (steps_right, SMALL, STONES, STEPS, GOAL),
    (arranged, SMALL, STONES, GOAL), (exchanged, SMALL, STONES, 2, 4), (arranged, SMALL, STONES, STONES[::-1]),
    (run_of_steps, WORLD, FLOOR, 1, 0, ((1, 2), (1, 4))), (normal, WORLD, FLOOR), (lead_home, WORLD, FLOOR),
    (lead, WORLD, FLOOR, FLOOR[5::-1] + FLOOR[6:]), (lead, WORLD, FLOOR, LESS), (apart, WORLD, FLOOR, LESS),
    (apart, WORLD, FLOOR, FLOOR), (apart_right, WORLD, FLOOR, LESS, ("still", 12, 0)), (odd_count, 6, 3),
    (apart_right, WORLD, FLOOR, LESS, ("weighs", KEEPER, 2)), (surplus_count, 5, 5, 3), (side_lot, 3, 3, (-1, 0, 1)),
    (odd_lot, 6, 3, 2), (lot_size, SMALL, 3, (-1, 0, 1)), (lot_floor, SMALL, 3, (-1, 0, 1), 30),
    (lot_number, SMALL, 3, (0, 0, 1, 1, 2, 0)), (lot_size, SMALL, 3, (-1, 0)),
    (core_count, 8, 3), (ring_lot, 5, 3, (0, 1, 2)), (still_count, SMALL, 3), (still_lot, SMALL, 3, (3, -3, 0)), (class_count, SMALL, 3),
    (class_size, TINY, (2, 1, 0, 0)), (floor_number, WORLD, FLOOR), (floor_at, WORLD, 10 ** 6), (class_row, TINY), (far, TINY, (2, 1, 0, 0)),
    (shortest, TINY, (2, 1, 0, 0), (0, 0, 1, 2)), (ball, TINY, (2, 1, 0, 0), 2), (runs_of, TINY, (2, 1, 0, 0), (0, 0, 1, 2), 5),
    (loaded, SMALL, (0,) * 6), (floor_of_load, SMALL, (1, 2)), (fits, SMALL, (0,) * 6, (1,) * 6), (carriage, SMALL, (0,) * 6, (1,) * 6),
    (carriage_right, SMALL, (0,) * 6, (1,) * 6, ((1, 0), (3, 4), (5, 2))), (cost, SMALL, ((1, 0), (3, 4))), (carry, SMALL, (0,) * 6, (1,) * 6),
    (rise, SMALL, (0,) * 6, (1,) * 6, (1, 0) * 3), (heights, SMALL, (0,) * 6, (1,) * 6), (class_row, WORLD), (carry, WEB, (), ()),
    (heights_right, SMALL, (0,) * 6, (1,) * 6, 3, (1, 0) * 3), (hop_run, SMALL, (0,) * 6, (1,) * 6), (merged, WORLD, FLOOR, (0, 1, 1)),
    (merge_bound, TINY, (2, 1, 0, 0), (0, 0, 1, 2)), (merge_row, TINY, (2, 1, 0, 0), (0, 0, 1, 2)), (split, WORLD, FLOOR),
    (sum_answer, TINY, TINY, ((0, 0), (1, 1)), (2, 1, 0, 0), (0, 0, 1, 2)), (web_text, WEB), (web_from, "web 3\n0 1\n0 2"), (plan_text, PLAN),
    (plan_from, "plan 2 2 0\nhole 0 1\nwall 0 0 1 0"), (floor_text, PLAN, (0, 1, 2, 3, 4, 5, 0, 1)), (floor_of, PLAN, "abc\nd#e\nfab"),
    (run_text, RUN), (run_from, "0-1-1,1-2-0"), (merge_bound, WORLD, FLOOR, FLOOR), (floor_of, PLAN, "abc"),
    (with_link, WEB, 0, 1), (after, WORLD, FLOOR, (0, 2, 1)), (replayed, WORLD, FLOOR, RUN + RUN), (way, WEB, 0, 99),
)


def shown(thing):
    """What can be seen of a thing, so that two of them can be compared."""
    if isinstance(thing, Web):
        return ("web", thing.size, thing.links, [thing.near(x) for x in range(thing.size)])
    if isinstance(thing, World):
        return ("world", shown(thing.web), thing.coats, thing.table)
    return thing


def answered(call, *args):
    try:
        return shown(call(*args))
    except Refused as refused:
        return (refused.__class__.__name__, refused.what)


class Unchanged(Case):
    def test_nothing_handed_in_is_changed(self):
        for call, *args in CALLS:
            before = deepcopy([shown(thing) for thing in args])
            answered(call, *args)
            self.assertEqual([shown(thing) for thing in args], before, call)

    def test_the_same_is_answered_alike(self):
        for call, *args in CALLS:
            self.assertEqual(answered(call, *args), answered(call, *args), call)

    def test_no_lists_are_returned(self):
        for call, *args in CALLS:
            self.no_lists(call(*args) if isinstance(answered(call, *args), list) else answered(call, *args))

    def no_lists(self, thing):
        self.assertNotIsInstance(thing, (list, set, dict))
        if isinstance(thing, tuple) and "web" not in thing:
            for inner in thing:
                self.no_lists(inner)

    def test_what_a_house_is_handed(self):
        web, floor, run, goal = grid(2, 2), (0, 0, 1, 1), ((0, 1, 1), (0, 2, 0)), (1, 1, 0, 0)
        before = deepcopy([shown(web), floor, run, goal])
        house = House(web, 2, floor=floor)
        for call, *args in ((house.lay, run), (house.aim, goal), (house.link, 3, 0), (house.cut, 0, 1), (house.undo,), (house.begin,), (house.redo,),
                            (house.drop,)):
            self.assertIsNone(call(*args))
        told(house, "cut 0 1")
        self.no_lists((house.floor(), house.goal(), house.record(), house.trials()))
        self.assertEqual([shown(web), floor, run, goal], before)
        self.assertIsNot(house.web(), web)
        self.assertIs(house.record()[0][1], run)

    def test_webs_stay_as_they_are_when_others_are_made_of_them(self):
        near = [WEB.near(x) for x in range(WEB.size)]
        for made in (with_link(WEB, 5, 6), without_cell(WEB, 0), with_corner(WEB, 0, 2), joined(WEB, WEB, ())):
            self.assertIsNot(made, WEB)
            self.assertEqual([WEB.near(x) for x in range(WEB.size)], near)
