"""Leads: runs from floors to other floors with the same answer, part by part."""

from pairfloors.answers import two_answers
from pairfloors.chains import widened
from pairfloors.cores import ring_row
from pairfloors.errors import NotSame, TooLarge
from pairfloors.exchanges import MOST_SEARCHED_CELLS, MOST_SEARCHED_LINKS, arranged, nearest
from pairfloors.floors import worn
from pairfloors.kinds import kind
from pairfloors.normals import home, normal
from pairfloors.parts import part_web, parts
from pairfloors.runs import replayed, turned_back
from pairfloors.sides import sides
from pairfloors.walkdeeds import run_of_steps
from pairfloors.walkers import BARE
from pairfloors.webs import rising
from pairfloors.worlds import World


def lead_home(world, floor):
    """A run from the floor to its normal floor."""
    return led(world, floor, normal(world, floor))


def lead(world, one, two):
    """A run from one to two."""
    first, second = two_answers(world, one, two)
    for part, here, there in zip(parts(world.web), first, second):
        if here != there:
            raise NotSame(part[0])
    return led(world, one, two)


def led(world, one, two):
    """As lead, for two floors that are known to have the same answer."""
    unlike = [part for part in parts(world.web) if worn(one, part) != worn(two, part)]
    webs = [part_web(world.web, part[0]) for part in unlike]
    for web in webs:
        if web.size > MOST_SEARCHED_CELLS or len(web.links) > MOST_SEARCHED_LINKS:
            raise TooLarge(web.size)
    run = []
    for part, web in zip(unlike, webs):
        inner = led_within(World(web, world.coats, table=world.table), worn(one, part), worn(two, part))
        run.extend([(part[x], part[y], coat) for x, y, coat in inner])
    return tuple(run)


def led_within(world, one, two):
    """As led, where the web is a stout part or a ring by itself and both floors stir."""
    wide = World(world.web, world.coats)
    run = home_run(wide, one) + turned_back(wide, two, home_run(wide, two))
    return widened(world, one, run)


def home_run(world, floor):
    """As lead_home, where the web is a stout part or a ring by itself, the floor stirs, and the table has all pairs."""
    goal = normal(world, floor)
    if floor == goal:
        return ()
    if kind(world.web, 0) == "ring":
        return ring_run(world.web, floor, goal)
    return stout_run(world, floor, goal)


def stout_run(world, floor, goal):
    """As home_run, on a stout web; goal is the normal floor."""
    run, pair = paired_off(world, floor)
    here = replayed(world, floor, run)
    end = home(world.web, parts(world.web)[0])
    # What is left has to stand on the sides where the normal floor has it: so it only needs to be arranged.
    steps = arranged(world.web, bared(here, pair), bared(goal, end))
    run = run + run_of_steps(world, here, pair[0], pair[1], steps)
    if replayed(world, floor, run)[end[0]] != 0:
        run = run + (end + (0,),)
    return run


def paired_off(world, floor):
    """A run that changes twins to 0 until there are none, and the like pair that is the walker behind it."""
    web = world.web
    like = [(x, y) for x, y in web.links if floor[x] == floor[y]]
    pair = like[0]
    run = ()
    marks = twins(web, floor, pair)
    while marks is not None:
        steps, end, met = nearest(web, pair, marks, lambda at, held: web.linked(held[0], held[1]))
        more = run_of_steps(world, floor, pair[0], pair[1], steps) + (rising(met[0], met[1]) + (0,),)
        run = run + more
        floor = replayed(world, floor, more)
        pair = end
        marks = twins(web, floor, pair)
    return (run, pair)


def twins(web, floor, pair):
    """Two cells besides the pair that wear the same coat, not 0, and can be led to linked cells; or None."""
    shades = sides(web)
    free = [x for x in range(web.size) if x not in pair and floor[x] != 0]
    for x in free:
        for z in free:
            if x < z and floor[x] == floor[z] and (shades[x] < 0 or shades[x] != shades[z]):
                return (x, z)
    return None


def bared(floor, pair):
    """The coats as stones, with the walker on the pair."""
    return tuple([BARE if x in pair else coat for x, coat in enumerate(floor)])


def ring_run(web, floor, goal):
    """As home_run, on a ring; goal is the normal floor."""
    ring = RingRun(ring_row(web, 0), floor)
    many = len(ring.row)
    at = like_place(ring.letters, many)
    while at is not None:
        ring.put_away(many, at)
        many -= 2
        at = like_place(ring.letters, many)
    # The core is a reading of the letters that are left, so that they come to stand as it does.
    while tuple(ring.letters) != worn(goal, ring.row):
        ring.turn_by_two(many)
    return tuple(ring.run)


def like_place(letters, many):
    """The first of the first many letters, read as a ring, that is like the next one; or None."""
    for at in range(many):
        if many > 1 and letters[at] == letters[(at + 1) % many]:
            return at
    return None


class RingRun:
    """A run on a ring that is being made: row are the cells, letters the coats along them, run the deeds so far.

    The first letters alone, however many, are a shorter ring while all letters behind them are 0: what happens
    between the last and the first of them goes through those zeros.
    """

    def __init__(self, row, floor):
        self.row = row
        self.letters = list(worn(floor, row))
        self.run = []

    def paint(self, at, coat):
        """Give two letters that are alike, the one at the place and the next one on the whole ring, the coat."""
        beside = (at + 1) % len(self.row)
        if self.letters[at] != coat:
            self.run.append(rising(self.row[at], self.row[beside]) + (coat,))
            self.letters[at] = coat
            self.letters[beside] = coat

    def paint_pairs(self, first, coat):
        """Paint the pairs of letters from the place first to the end of the row, one after the other."""
        for at in range(first, len(self.row), 2):
            self.paint(at, coat)

    def paint_within(self, many, at, coat):
        """As paint, on the shorter ring of the first many letters."""
        if at < many - 1 or self.letters[at] == coat:
            self.paint(at, coat)
        else:
            self.paint_pairs(many, self.letters[at])
            self.paint_pairs(many - 1, coat)
            self.paint_pairs(many, 0)

    def put_away(self, many, at):
        """Lead the like pair that begins at the place to the end of the shorter ring of many letters, and make it 0."""
        if at == many - 1:
            self.paint_within(many, at, self.letters[many - 2])
        for place in range(at, many - 2):
            self.paint(place, self.letters[place + 2])
        self.paint(many - 2, 0)

    def turn_by_two(self, many):
        """Turn the shorter ring of many letters by two places: lead the pair behind it once round and two on."""
        wide = many + 2
        for hop in range(wide):
            at = (many + hop) % wide
            self.paint_within(wide, at, self.letters[(at + 2) % wide])
        self.paint(many, 0)
