from copy import deepcopy
from random import Random

from making import Case, full, grid, let_deeds, line, made, random_run, ring, side_by_side, slow_after

from pairfloors.answers import answer, same
from pairfloors.errors import (
    BadCell, BadCoat, BadCount, BadDeed, BadPair, BadRun, BadSize, Narrow, NoGoal, NoTrial, NothingToRedo, NothingToUndo, Refused, TooMany,
)
from pairfloors.house import House
from pairfloors.webs import Web
from pairfloors.worlds import World

HUGE = 10 ** 30


def seen(house):
    """All that a house tells."""
    web = house.web()
    told = [house.floor(), (web.size, web.links), house.goal(), house.record(), house.trials()]
    for question in (house.answer, house.can):
        try:
            told.append(question())
        except Refused as refused:
            told.append((refused.__class__.__name__, refused.what))
    return told


def filled(house, many):
    """The house with so many deeds more."""
    for _ in range(many):
        house.lay(())
    return house


class Model:
    """A slow house, straight from the document: it keeps a list of deeds, and does all of them anew whenever it is asked."""

    def __init__(self, web, coats):
        self.start, self.coats = (web.size, web.links), coats
        self.done, self.undone, self.opened = [], [], []

    def state(self):
        size, links = self.start
        floor, goal, rows = (0,) * size, None, []
        for name, *args in self.done:
            if name == "paint":
                rows.append(("paint", *args, floor[args[0]]))
                floor = slow_after(floor, args)
            if name == "lay":
                rows.append(("lay", args[0]))
                for deed in args[0]:
                    floor = slow_after(floor, deed)
            if name in ("link", "cut"):
                a, b = sorted(args)
                rows.append((name, a, b))
                links = tuple(sorted(links + ((a, b),))) if name == "link" else tuple(link for link in links if link != (a, b))
            if name == "aim":
                goal = args[0]
                rows.append(("aim", goal))
        return floor, (size, links), goal, tuple(rows), len(self.opened)

    def do(self, name, *args):
        """Do something, if it may be done; whether it may."""
        if name == "undo":
            if len(self.done) == (len(self.opened[-1][0]) if self.opened else 0):
                return False
            self.undone.append(self.done.pop())
        elif name == "redo":
            if not self.undone:
                return False
            self.done.append(self.undone.pop())
        elif name == "begin":
            if len(self.opened) == 4:
                return False
            self.opened.append((list(self.done), list(self.undone)))
        elif name in ("keep", "drop"):
            if not self.opened:
                return False
            opened = self.opened.pop()
            if name == "drop":
                self.done, self.undone = opened
        else:
            self.done.append((name, *args))
            self.undone = []
        return True


def something(model, chance):
    """Something that may be done to the house of the model, or what is no deed."""
    floor, (size, links), _, _, _ = model.state()
    world = World(Web(size, links), model.coats)
    name = chance.choice(("paint", "paint", "lay", "link", "cut", "aim") + ("undo", "redo") * 3 + ("begin", "keep", "drop"))
    if name == "paint" and let_deeds(world, floor):
        return (name, *chance.choice(let_deeds(world, floor)))
    if name == "lay":
        return (name, random_run(world, floor, chance.randrange(5), chance)[0])
    if name == "cut" and links:
        return (name, *chance.sample(chance.choice(links), 2))
    if name == "link":
        free = [(a, b) for a in range(size) for b in range(size) if a != b and (min(a, b), max(a, b)) not in links]
        if free:
            return (name, *chance.choice(free))
    if name in ("undo", "redo", "begin", "keep", "drop"):
        return (name,)
    return ("aim", tuple(chance.randrange(model.coats) for _ in range(size)))


class Made(Case):
    def test_at_first(self):
        web = grid(2, 3)
        house = House(web, 3)
        self.assertEqual(seen(house), [(0,) * 6, (6, web.links), None, (), 0, (("sides", (0, 0, 0)),), ("NoGoal", 0)])
        house = House(web=web, coats=3, floor=(0, 0, 1, 1, 2, 0))
        self.assertEqual((house.floor(), house.record(), house.goal()), ((0, 0, 1, 1, 2, 0), (), None))
        self.assertEqual(House(web, 3, floor=None).floor(), (0,) * 6)
        self.is_web(house.web(), 6, web.links)

    def test_one_cell_and_twelve(self):
        house = House(line(1), 6, floor=(5,))
        self.assertEqual((house.floor(), house.answer()), ((5,), (("still", (5,)),)))
        self.refuses(BadDeed, (0, 0, 1), house.paint, 0, 0, 1)
        house.lay(())
        house.aim((4,))
        self.is_false(house.can())
        self.assertEqual(house.record(), (("lay", ()), ("aim", (4,))))
        self.assertEqual(House(grid(3, 4), 2).floor(), (0,) * 12)
        self.assertEqual(House(full(12), 6).web().size, 12)

    def test_errors_in_order(self):
        for size in (13, 40):
            self.refuses(BadSize, size, House, Web(size, ()), 1, floor=(9,))
            self.refuses(BadSize, size, House, Web(size, ()), 2)
        for coats in (1, 0, -1, 7, HUGE, -HUGE):
            self.refuses(BadCount, coats, House, grid(3, 4), coats, floor=(9,))
        self.refuses(BadSize, 1, House, grid(2, 2), 2, floor=(9,))
        self.refuses(BadSize, 0, House, grid(2, 2), 2, floor=())
        self.refuses(BadCoat, 1, House, grid(2, 2), 2, floor=(0, 2, -1, 0))


class Deeds(Case):
    def test_paint(self):
        house = House(grid(2, 3), 3)
        self.assertIsNone(house.paint(0, 1, 2))
        house.paint(x=4, y=5, coat=1)
        house.paint(0, 1, 1)
        self.assertEqual(house.floor(), (1, 1, 0, 0, 1, 1))
        self.assertEqual(house.record(), (("paint", 0, 1, 2, 0), ("paint", 4, 5, 1, 0), ("paint", 0, 1, 1, 2)))

    def test_all_changes_are_let(self):
        for old in range(6):
            for coat in range(6):
                house = House(line(2), 6, floor=(old, old))
                if coat == old:
                    self.refuses(BadDeed, (0, 1, coat), house.paint, 0, 1, coat)
                else:
                    house.paint(0, 1, coat)
                    self.assertEqual((house.floor(), house.record()), ((coat, coat), (("paint", 0, 1, coat, old),)))

    def test_deeds_that_are_not_let(self):
        house = House(grid(2, 3), 3, floor=(0, 0, 1, 1, 2, 0))
        before = seen(house)
        for deed in ((1, 0, 1), (0, 0, 1), (0, 1, 0), (0, 1, 3), (0, 1, -1), (1, 2, 0), (0, 4, 1), (0, 6, 1), (-1, 0, 1), (0, 1, HUGE),
                     (HUGE, HUGE + 1, 0), (-HUGE, 1, 0), (5, 6, 0)):
            self.refuses(BadDeed, deed, house.paint, *deed)
            self.assertEqual(seen(house), before)

    def test_lay(self):
        house = House(grid(2, 3), 3)
        run = ((0, 1, 1), (1, 4, 2))
        self.refuses(BadRun, 1, house.lay, run)
        self.assertEqual((house.floor(), house.record()), ((0,) * 6, ()))
        run = ((0, 1, 1), (4, 5, 2), (0, 1, 0))
        self.assertIsNone(house.lay(run=run))
        self.assertEqual((house.floor(), house.record()), ((0, 0, 0, 0, 2, 2), (("lay", run),)))
        house.lay(())
        self.assertEqual(house.record(), (("lay", run), ("lay", ())))
        house.undo()
        house.undo()
        self.assertEqual((house.floor(), house.record()), ((0,) * 6, ()))

    def test_long_runs(self):
        house = House(line(2), 2)
        run = ((0, 1, 1), (0, 1, 0)) * 500
        house.lay(run)
        self.assertEqual((house.floor(), house.record()), ((0, 0), (("lay", run),)))
        for many in (1001, 1002, 5000):
            self.refuses(TooMany, many, house.lay, ((9, 9, 9),) * many)
        self.refuses(BadRun, 999, house.lay, run[:999] + ((0, 1, 1),))
        self.refuses(BadRun, 0, house.lay, ((0, 1, 2),))
        self.refuses(BadRun, 0, house.lay, ((1, 0, 1),))
        self.refuses(BadRun, 1, house.lay, ((0, 1, 1), (HUGE, 1, -HUGE)))
        self.assertEqual(house.record(), (("lay", run),))

    def test_link_and_cut(self):
        house = House(line(4), 2)
        self.assertIsNone(house.link(3, 0))
        self.is_web(house.web(), 4, ((0, 1), (0, 3), (1, 2), (2, 3)))
        self.assertIsNone(house.cut(b=1, a=2))
        self.is_web(house.web(), 4, ((0, 1), (0, 3), (2, 3)))
        house.link(a=1, b=2)
        house.cut(0, 3)
        self.assertEqual(house.record(), (("link", 0, 3), ("cut", 1, 2), ("link", 1, 2), ("cut", 0, 3)))
        self.is_web(house.web(), 4, line(4).links)

    def test_link_and_cut_change_what_is_let(self):
        house = House(line(3), 2)
        self.refuses(BadDeed, (0, 2, 1), house.paint, 0, 2, 1)
        house.link(0, 2)
        house.paint(0, 2, 1)
        house.cut(0, 2)
        self.refuses(BadDeed, (0, 2, 0), house.paint, 0, 2, 0)
        self.assertEqual(house.floor(), (1, 0, 1))

    def test_links_that_are_wrong(self):
        house = House(line(4), 2)
        before = seen(house)
        for a, b, error, what in ((4, 9, BadCell, 4), (-1, 0, BadCell, -1), (0, 4, BadCell, 4), (HUGE, 0, BadCell, HUGE), (0, 0, BadPair, (0, 0)),
                                  (1, 0, BadPair, (1, 0)), (2, 3, BadPair, (2, 3))):
            self.refuses(error, what, house.link, a, b)
        for a, b, error, what in ((4, 9, BadCell, 4), (-1, 0, BadCell, -1), (0, 4, BadCell, 4), (0, -HUGE, BadCell, -HUGE), (0, 0, BadPair, (0, 0)),
                                  (2, 0, BadPair, (2, 0)), (0, 3, BadPair, (0, 3))):
            self.refuses(error, what, house.cut, a, b)
        self.assertEqual(seen(house), before)

    def test_aim(self):
        house = House(grid(2, 2), 2, floor=(0, 0, 1, 1))
        self.refuses(NoGoal, 0, house.can)
        self.assertIsNone(house.aim(floor=(1, 1, 0, 0)))
        self.assertEqual((house.goal(), house.record(), house.can()), ((1, 1, 0, 0), (("aim", (1, 1, 0, 0)),), True))
        house.aim((0, 0, 0, 1))
        self.assertEqual((house.goal(), house.can()), ((0, 0, 0, 1), False))
        self.refuses(BadSize, 3, house.aim, (9, 9, 9))
        self.refuses(BadCoat, 2, house.aim, (0, 1, 2, -1))
        self.assertEqual(len(house.record()), 2)

    def test_two_hundred_deeds(self):
        house = filled(House(line(2), 2), 198)
        house.paint(0, 1, 1)
        house.aim((0, 0))
        self.assertEqual(len(house.record()), 200)
        before = seen(house)
        for error, what, call, *args in (
            (TooMany, 201, house.paint, 0, 1, 0), (BadDeed, (0, 1, 1), house.paint, 0, 1, 1), (TooMany, 201, house.lay, ()),
            (TooMany, 201, house.lay, ((0, 1, 0),)), (TooMany, 1001, house.lay, ((0, 1, 0),) * 1001), (BadRun, 0, house.lay, ((0, 1, 1),)),
            (BadPair, (0, 1), house.link, 0, 1), (BadCell, 2, house.link, 2, 0), (TooMany, 201, house.cut, 1, 0), (BadCell, 2, house.cut, 0, 2),
            (BadPair, (0, 0), house.cut, 0, 0), (TooMany, 201, house.aim, (1, 1)), (BadSize, 1, house.aim, (0,)), (BadCoat, 0, house.aim, (2, 0)),
        ):
            self.refuses(error, what, call, *args)
            self.assertEqual(seen(house), before)
        house.undo()
        house.redo()
        self.assertEqual(seen(house), before)
        house.undo()
        house.cut(0, 1)
        self.refuses(TooMany, 201, house.link, 0, 1)
        self.assertEqual(len(house.record()), 200)

    def test_a_refused_deed_forgets_nothing(self):
        house = House(line(2), 2)
        house.paint(0, 1, 1)
        house.undo()
        for error, what, call, *args in ((BadDeed, (0, 1, 0), house.paint, 0, 1, 0), (BadRun, 0, house.lay, ((0, 1, 0),)),
                                         (BadPair, (0, 1), house.link, 0, 1), (BadPair, (0, 0), house.cut, 0, 0), (BadSize, 0, house.aim, ()),
                                         (NothingToUndo, 0, house.undo), (NoTrial, 0, house.drop), (NoTrial, 0, house.keep)):
            self.refuses(error, what, call, *args)
        house.redo()
        self.assertEqual(house.floor(), (1, 1))


class Questions(Case):
    def test_answer(self):
        house = House(side_by_side(line(2), grid(2, 2)), 2)
        self.refuses(Narrow, 0, house.answer)
        house.cut(0, 1)
        self.assertEqual(house.answer(), answer(World(house.web(), 2), house.floor()))
        house = House(line(4), 2, floor=(0, 1, 0, 0))
        self.refuses(Narrow, 0, house.answer)
        house.link(0, 3)
        self.assertEqual(house.answer(), (("sides", (1, -1)),))
        house.link(1, 3)
        house.link(0, 2)
        self.assertEqual(house.answer(), (("odd", (0, 1)),))

    def test_can(self):
        house = House(side_by_side(line(2), line(2)), 2, floor=(0, 1, 0, 1))
        self.refuses(NoGoal, 0, house.can)
        house.aim((0, 0, 0, 0))
        self.refuses(Narrow, 0, house.can)
        house.aim((0, 1, 0, 0))
        self.refuses(Narrow, 2, house.can)
        house = House(side_by_side(line(2), line(2)), 2, floor=(0, 1, 0, 0))
        house.aim((0, 0, 0, 1))
        self.refuses(Narrow, 2, house.can)

    def test_a_goal_while_links_change(self):
        house = House(line(4), 2, floor=(0, 0, 1, 1))
        house.aim((1, 1, 0, 0))
        self.refuses(Narrow, 0, house.can)
        house.link(0, 3)
        self.is_true(house.can())
        house.cut(1, 2)
        self.refuses(Narrow, 0, house.can)
        house.cut(0, 1)
        house.cut(0, 3)
        house.cut(2, 3)
        self.assertEqual(house.goal(), (1, 1, 0, 0))
        self.is_false(house.can())
        for _ in range(4):
            house.undo()
        self.is_true(house.can())

    def test_paint_and_lay_do_not_matter(self):
        chance = Random(127)
        for web, coats in ((grid(2, 3), 3), (ring(5), 3), (full(5), 4), (side_by_side(ring(3), grid(2, 2), line(1)), 3)):
            floor = tuple(chance.randrange(2) for _ in range(web.size))
            house = House(web, coats, floor=floor)
            house.aim(random_run(World(web, coats), floor, 9, chance)[1][-1])
            told = house.answer()
            for _ in range(20):
                here = random_run(World(web, coats), house.floor(), 3, chance)[0]
                if here and chance.random() < 0.5:
                    house.paint(*here[0])
                else:
                    house.lay(here)
                self.assertEqual(house.answer(), told)
                self.is_true(house.can())
                self.is_true(same(World(web, coats), house.floor(), house.goal()))


class Undoing(Case):
    def test_every_kind_of_deed(self):
        for trial in (False, True):
            house = House(grid(2, 3), 3)
            if trial:
                house.begin()
            told = [seen(house)]
            for call, *args in ((house.paint, 0, 1, 2), (house.aim, (0,) * 6), (house.link, 5, 0), (house.lay, ((0, 5, 1), (0, 1, 1))[:0]),
                                (house.cut, 4, 3), (house.lay, ((2, 5, 1), (2, 5, 2))), (house.aim, (1,) * 6), (house.paint, 0, 1, 0), (house.cut, 0, 5)):
                call(*args)
                told.append(seen(house))
            for there in told[-2::-1]:
                self.assertIsNone(house.undo())
                self.assertEqual(seen(house), there)
            self.refuses(NothingToUndo, 0, house.undo)
            for there in told[1:]:
                self.assertIsNone(house.redo())
                self.assertEqual(seen(house), there)
            self.refuses(NothingToRedo, 0, house.redo)

    def test_a_deed_forgets_what_was_undone(self):
        for call in ("paint", "lay", "link", "cut", "aim"):
            house = House(line(3), 2)
            house.paint(1, 2, 1)
            house.undo()
            args = {"paint": (0, 1, 1), "lay": ((),), "link": (0, 2), "cut": (0, 1), "aim": ((0, 0, 0),)}[call]
            getattr(house, call)(*args)
            self.refuses(NothingToRedo, 0, house.redo)
            house.undo()
            house.redo()
            self.assertEqual(house.record()[0][0], call)

    def test_nothing_to_undo(self):
        house = House(line(2), 2)
        self.refuses(NothingToUndo, 0, house.undo)
        self.refuses(NothingToRedo, 0, house.redo)
        house.paint(0, 1, 1)
        self.refuses(NothingToRedo, 0, house.redo)


class Trials(Case):
    def test_keep(self):
        house = House(line(2), 2)
        house.paint(0, 1, 1)
        self.assertIsNone(house.begin())
        self.refuses(NothingToUndo, 0, house.undo)
        house.paint(0, 1, 0)
        self.assertEqual(house.trials(), 1)
        self.assertIsNone(house.keep())
        self.assertEqual((house.trials(), house.floor(), len(house.record())), (0, (0, 0), 2))
        house.undo()
        house.undo()
        self.assertEqual((house.floor(), house.record()), ((0, 0), ()))
        self.refuses(NothingToUndo, 0, house.undo)

    def test_drop(self):
        house = House(line(3), 3)
        house.paint(0, 1, 1)
        house.paint(0, 1, 2)
        house.undo()
        before = seen(house)
        house.begin()
        house.aim((1, 1, 1))
        house.link(0, 2)
        house.paint(0, 1, 0)
        house.lay(((0, 2, 2),))
        self.refuses(NothingToRedo, 0, house.redo)
        self.assertIsNone(house.drop())
        self.assertEqual(seen(house), before)
        house.redo()
        self.assertEqual(house.floor(), (2, 2, 0))
        house.undo()
        house.undo()
        self.assertEqual(house.floor(), (0, 0, 0))

    def test_drop_of_what_was_redone(self):
        house = House(line(2), 3)
        house.paint(0, 1, 1)
        house.paint(0, 1, 2)
        house.undo()
        house.undo()
        house.begin()
        house.redo()
        house.redo()
        self.assertEqual((house.floor(), len(house.record())), ((2, 2), 2))
        house.undo()
        self.assertEqual(house.floor(), (1, 1))
        house.drop()
        self.assertEqual((house.floor(), house.record()), ((0, 0), ()))
        house.redo()
        house.redo()
        self.assertEqual(house.floor(), (2, 2))
        self.refuses(NothingToRedo, 0, house.redo)

    def test_what_is_redone_in_a_trial_can_be_undone_there(self):
        house = House(line(2), 3)
        house.paint(0, 1, 1)
        house.undo()
        house.begin()
        house.redo()
        house.undo()
        self.refuses(NothingToUndo, 0, house.undo)
        house.redo()
        house.keep()
        house.undo()
        self.assertEqual(house.floor(), (0, 0))

    def test_begin_and_keep_forget_nothing(self):
        house = House(line(2), 3)
        house.paint(0, 1, 1)
        house.paint(0, 1, 2)
        house.undo()
        house.begin()
        house.begin()
        house.keep()
        house.keep()
        self.assertEqual(len(house.record()), 1)
        house.redo()
        self.assertEqual(house.floor(), (2, 2))

    def test_what_is_undone_in_a_trial_stays_undone_behind_keep(self):
        house = House(line(2), 3)
        house.begin()
        house.paint(0, 1, 1)
        house.undo()
        house.keep()
        house.redo()
        self.assertEqual(house.floor(), (1, 1))

    def test_four_trials(self):
        house = House(line(2), 2)
        for many in range(4):
            self.assertEqual(house.trials(), many)
            house.begin()
            house.paint(0, 1, 1 - many % 2)
        self.refuses(TooMany, 5, house.begin)
        self.assertEqual((house.trials(), len(house.record())), (4, 4))
        house.undo()
        self.refuses(NothingToUndo, 0, house.undo)
        house.keep()
        self.assertEqual((house.trials(), len(house.record())), (3, 3))
        # The beginning of the third trial is the bound now.
        house.undo()
        self.refuses(NothingToUndo, 0, house.undo)
        house.drop()
        self.assertEqual((house.trials(), len(house.record()), house.floor()), (2, 2, (0, 0)))
        house.begin()
        house.begin()
        self.refuses(TooMany, 5, house.begin)
        for many in (3, 2, 1, 0):
            house.drop()
            self.assertEqual(house.trials(), many)
        self.assertEqual((house.record(), house.floor()), ((), (0, 0)))
        for call in (house.keep, house.drop):
            self.refuses(NoTrial, 0, call)

    def test_no_deeds(self):
        house = filled(House(line(2), 2), 200)
        house.begin()
        self.refuses(TooMany, 201, house.lay, ())
        self.refuses(NothingToUndo, 0, house.undo)
        house.keep()
        house.undo()
        house.begin()
        house.lay(())
        self.refuses(TooMany, 201, house.lay, ())
        house.drop()
        self.assertEqual(len(house.record()), 199)
        house.redo()
        self.assertEqual(len(house.record()), 200)


class ByModel(Case):
    def test_by_chance(self):
        for seed in range(60):
            chance = Random(seed)
            web, coats = chance.choice(((line(3), 2), (grid(2, 3), 3), (side_by_side(ring(3), line(2)), 4), (made(4, [(0, 1)]), 2), (full(4), 3)))
            house, model = House(web, coats), Model(web, coats)
            for _ in range(60):
                name, *args = something(model, chance)
                handed = deepcopy(args)
                if model.do(name, *args):
                    self.assertIsNone(getattr(house, name)(*args))
                else:
                    with self.assertRaises(Refused):
                        getattr(house, name)(*args)
                self.assertEqual(args, handed)
                self.assertEqual(tuple(seen(house)[:5]), model.state())
            self.is_web(web, web.size, web.links)

    def test_houses_do_not_share_anything(self):
        web = line(2)
        one, two = House(web, 2), House(web, 2)
        one.cut(0, 1)
        one.begin()
        self.assertEqual((two.record(), two.trials(), two.web().links, web.links), ((), 0, ((0, 1),), ((0, 1),)))
