"""What several tests share: webs, slow answers straight from the document, and odd things for judges."""

from functools import cache
from itertools import combinations, permutations, product
from random import Random
from unittest import TestCase

from pairfloors.webs import Web


def nested(deep):
    """A tuple nested so many times."""
    thing = ()
    for _ in range(deep):
        thing = (thing,)
    return thing


# Of tuples, texts, numbers and None, up to 50 deep and with up to 10000 parts: a judge must bear each of them.
ODD_THINGS = (
    None, "", "a", "0", "dot", (), (None,), ("a",), ("ab", "cd"), ((),), ((), ()), (None, None, None), -1, 40, 10 ** 30,
    -10 ** 30, (10 ** 30,), (-1, -1, -1), ((0, 1),), ((0, 1, 1), None), ((0, 1, "a"),), ((0, (1,), 1),), (((0, 1, 1),),),
    nested(50), (0,) * 9999, ("a",) * 9999, ((0, 1, 1),) * 2499, ((0, 1),) * 3000, (None, "a", (1, (2, ("b", None)))),
)

NO_PAIRS = (None, 0, 7, "", "ab", (), (0,), (0, 1, 2), (None, 1), (0, "b"), ((0,), 1), ((0, 1),), ((0, 1), (0, 2), (0, 3)))


class Case(TestCase):
    """A test that also tells errors by their class and what they keep."""

    def refuses(self, error, what, call, *args, **more):
        with self.assertRaises(error) as held:
            call(*args, **more)
        self.assertIs(held.exception.__class__, error)
        self.assertEqual(held.exception.what, what)
        self.assertIs(held.exception.what.__class__, what.__class__)

    def is_web(self, web, size, links):
        self.assertIs(web.__class__, Web)
        self.assertEqual((web.size, web.links), (size, tuple(links)))
        self.assertIs(web.links.__class__, tuple)

    def is_false(self, answer):
        self.assertIs(answer, False)

    def is_true(self, answer):
        self.assertIs(answer, True)


def made(size, pairs):
    """The web with these links, whatever their order."""
    return Web(size, tuple(sorted({(min(a, b), max(a, b)) for a, b in pairs})))


def line(n):
    return made(n, [(x, x + 1) for x in range(n - 1)])


def ring(n):
    return made(n, [(x, (x + 1) % n) for x in range(n)])


def full(n):
    return made(n, combinations(range(n), 2))


def grid(rows, cols):
    across = [(r * cols + c, r * cols + c + 1) for r in range(rows) for c in range(cols - 1)]
    down = [(r * cols + c, r * cols + c + cols) for r in range(rows - 1) for c in range(cols)]
    return made(rows * cols, across + down)


def two_rows(left, right):
    """The web in which each of the first left cells is linked to each of the right others."""
    return made(left + right, [(a, left + b) for a in range(left) for b in range(right)])


def side_by_side(*webs):
    size, links = 0, []
    for web in webs:
        links += [(size + a, size + b) for a, b in web.links]
        size += web.size
    return made(size, links)


def renamed(web, seed):
    """The same web with its cells numbered in another order."""
    order = list(range(web.size))
    Random(seed).shuffle(order)
    return made(web.size, [(order[a], order[b]) for a, b in web.links])


def crowded(size=40, many=160):
    """A web of many links."""
    return Web(size, tuple(list(combinations(range(size), 2))[:many]))


def some_webs():
    """Webs of many sorts: all of up to four cells, and others, thin and dense, of one and of several parts."""
    webs = [
        made(size, pairs)
        for size in (1, 2, 3, 4)
        for many in range(size * (size - 1) // 2 + 1)
        for pairs in combinations(combinations(range(size), 2), many)
    ]
    webs += [line(5), line(9), ring(5), ring(6), ring(7), full(5), grid(2, 3), grid(3, 3), two_rows(3, 3)]
    webs += [side_by_side(ring(3), line(2), grid(2, 2)), side_by_side(full(4), line(1), ring(5), line(3))]
    webs += [renamed(side_by_side(ring(4), ring(6), ring(3), line(1)), 1), renamed(grid(3, 4), 2)]
    chance = Random(7)
    for _ in range(60):
        size = chance.randint(5, 9)
        every = list(combinations(range(size), 2))
        webs.append(made(size, chance.sample(every, chance.randint(2, len(every)))))
    return webs


def linked(web, x, y):
    return (min(x, y), max(x, y)) in web.links


def near(web, x):
    return tuple(y for y in range(web.size) if linked(web, x, y))


def slow_part(web, x):
    part = {x}
    while True:
        grown = part | {z for y in part for z in range(web.size) if linked(web, y, z)}
        if grown == part:
            return tuple(sorted(part))
        part = grown


@cache
def slow_parts(web):
    return tuple(sorted({slow_part(web, x) for x in range(web.size)}))


@cache
def slow_sides(web):
    """The sides of each cell by trying all ways to give them, part by part."""
    found = {}
    for part in slow_parts(web):
        if len(part) > 10:
            found.update(spread_sides(web, part))
            continue
        links = [(part.index(a), part.index(b)) for a, b in web.links if a in part]
        # Each bit is the side of a cell; the least cell is light.
        tried = range(0, 2 ** len(part), 2)
        right = [bits for bits in tried if all((bits >> a ^ bits >> b) & 1 for a, b in links)]
        assert len(right) <= 1
        found.update({x: right[0] >> at & 1 if right else -1 for at, x in enumerate(part)})
    return tuple(found[x] for x in range(web.size))


def spread_sides(web, part):
    """The sides of a part that has too many cells to try all ways."""
    found = {part[0]: 0}
    while len(found) < len(part):
        for a, b in web.links + tuple((b, a) for a, b in web.links):
            if a in found:
                found.setdefault(b, 1 - found[a])
    two_sided = all(found[a] != found[b] for a, b in web.links if a in found)
    return found if two_sided else {x: -1 for x in part}


def slow_mates(web, y, x, z):
    return [m for m in range(web.size) if m != y and linked(web, m, x) and linked(web, m, z)]


def slow_stout(web, x):
    for y in slow_part(web, x):
        around = near(web, y)
        if len(around) < 2:
            return False
        pairs = [(a, b) for a, b in combinations(around, 2) if slow_mates(web, y, a, b)]
        hanging = {around[0]}
        for _ in around:
            hanging |= {b for a, b in pairs + [(b, a) for a, b in pairs] if a in hanging}
        if hanging != set(around):
            return False
    return True


def slow_kind(web, x):
    part = slow_part(web, x)
    if len(part) == 1:
        return "dot"
    if slow_stout(web, x):
        return "stout"
    return "ring" if all(len(near(web, y)) == 2 for y in part) else "narrow"


def slow_rows(web, x, y):
    """All shortest rows of linked cells from x to y."""
    rows = [(x,)]
    for _ in range(web.size):
        there = [row for row in rows if row[-1] == y]
        if there:
            return there
        rows = [row + (z,) for row in rows for z in near(web, row[-1]) if z not in row]
    return []


def is_odd_round(web, x, cells):
    turned = cells[1:] + cells[:1]
    part = slow_part(web, x)
    right = all(a in part and linked(web, a, b) for a, b in zip(cells, turned))
    return right and len(cells) % 2 == 1 and len(cells) <= 2 * web.size


def orders(things):
    return list(permutations(things))


def all_tables(coats):
    """All tables of so many coats that hang together, each as a tuple of pairs."""
    pairs = list(combinations(range(coats), 2))
    tables = [rows for many in range(len(pairs) + 1) for rows in combinations(pairs, many)]
    return [rows for rows in tables if not loose_coats(coats, rows)]


def loose_coats(coats, table):
    """The coats to which one does not come from 0."""
    reached = {0}
    for _ in range(coats):
        reached |= {b for a, b in table if a in reached} | {a for a, b in table if b in reached}
    return sorted(set(range(coats)) - reached)


def slow_let(world, floor, deed):
    x, y, coat = deed
    if not 0 <= x < y < world.web.size or not linked(world.web, x, y) or not 0 <= coat < world.coats:
        return False
    return floor[x] == floor[y] and ((floor[x], coat) in world.table or (coat, floor[x]) in world.table)


def slow_deeds(world, floor):
    """All deeds that are let, ascending, by trying all triples."""
    size = world.web.size
    tried = [(x, y, coat) for x in range(size) for y in range(size) for coat in range(world.coats)]
    return tuple(deed for deed in tried if slow_let(world, floor, deed))


def let_deeds(world, floor):
    """All deeds that are let, by trying the links alone."""
    tried = [(x, y, coat) for x, y in world.web.links if floor[x] == floor[y] for coat in range(world.coats)]
    return [deed for deed in tried if slow_let(world, floor, deed)]


def slow_after(floor, deed):
    return tuple(deed[2] if x in deed[:2] else coat for x, coat in enumerate(floor))


def random_floor(world, chance):
    return tuple(chance.randrange(world.coats) for _ in range(world.web.size))


def random_run(world, floor, many, chance):
    """A run of up to so many deeds, chosen at random, with its trail."""
    run, trail = [], [floor]
    for _ in range(many):
        let = let_deeds(world, trail[-1])
        if not let:
            break
        run.append(chance.choice(let))
        trail.append(slow_after(trail[-1], run[-1]))
    return tuple(run), tuple(trail)


def all_floors(world):
    return list(product(range(world.coats), repeat=world.web.size))


def slow_classes(world):
    """For each floor the least one that is the same, by following all deeds."""
    least = {}
    for floor in all_floors(world):
        if floor not in least:
            least[floor] = floor
            reached = [floor]
            for here in reached:
                for deed in let_deeds(world, here):
                    there = slow_after(here, deed)
                    if there not in least:
                        least[there] = floor
                        reached.append(there)
    return least


def slow_still(world, floor, part):
    return all(floor[a] != floor[b] for a, b in world.web.links if a in part)


def slow_surplus(world, floor, part):
    shades = slow_sides(world.web)
    return tuple(sum(1 - 2 * shades[x] for x in part if floor[x] == coat) for coat in range(world.coats))


def slow_odd(world, floor, part):
    return tuple(coat for coat in range(world.coats) if sum(floor[x] == coat for x in part) % 2)


def slow_ring_row(web, part):
    """The only row that the document lets, of all orders of the cells (of small rings)."""
    rows = [row for row in permutations(part) if all(linked(web, a, b) for a, b in zip(row, row[1:] + row[:1]))]
    return min(row for row in rows if row[0] == part[0])


def slow_core(row, chance):
    """The core of the row, its like neighbours struck out in any order."""
    left = list(enumerate(row))
    while True:
        like = [at for at in range(len(left)) if len(left) > 1 and left[at - 1][1] == left[at][1]]
        if not like:
            break
        at = chance.choice(like)
        gone = (left[at - 1], left[at])
        left = [held for held in left if held not in gone]
    letters = tuple(coat for _, coat in left)
    starts = [at for at, (i, _) in enumerate(left) if len(row) % 2 == 1 or i % 2 == 0]
    return min([letters[at:] + letters[:at] for at in starts], default=())


def slow_stepped(web, stones, step):
    """The stones behind the step, or None if it is none there."""
    stay, to = step
    bare = [x for x, stone in enumerate(stones) if stone == -1]
    if stay not in bare or to in bare or not 0 <= to < web.size or not linked(web, stay, to):
        return None
    left = sum(bare) - stay
    return tuple(stones[to] if x == left else -1 if x == to else stone for x, stone in enumerate(stones))


def slow_steps(web, stones):
    every = [(stay, to) for stay in range(web.size) for to in range(web.size)]
    return [step for step in every if slow_stepped(web, stones, step) is not None]


def random_steps(web, stones, many, chance):
    """So many steps, chosen at random, with all stones on the way."""
    steps, way = [], [stones]
    for _ in range(many):
        steps.append(chance.choice(slow_steps(web, way[-1])))
        way.append(slow_stepped(web, way[-1], steps[-1]))
    return tuple(steps), way


def random_stones(web, chance, limit=4):
    bare = chance.choice(web.links)
    return tuple(-1 if x in bare else chance.randrange(limit) for x in range(web.size))


def collar(n):
    """The web of two rounds of n cells, each cell linked to the other round's: the plan of n rows, closed, 2 columns."""
    return made(2 * n, [(2 * x + k, (2 * x + 2 + k) % (2 * n)) for x in range(n) for k in (0, 1)]
                + [(2 * x, 2 * x + 1) for x in range(n)])


def corners(web):
    """The pairs of cells with a common near cell."""
    pairs = combinations(range(web.size), 2)
    return [(x, z) for x, z in pairs if any(linked(web, x, y) and linked(web, y, z) for y in range(web.size))]


def far_links(web):
    """The pairs a, b that are not linked, but are the ends of a row of four linked cells."""
    rows = []
    for x, y in web.links + tuple((b, a) for a, b in web.links):
        rows += [(a, b) for a in near(web, x) for b in near(web, y) if len({a, x, y, b}) == 4]
    return sorted({(a, b) for a, b in rows if a < b and not linked(web, a, b)})


def grown(web, size, more, chance):
    """A stout web, grown from another one by corners and then by links, as point 4 of the document says."""
    while web.size < size:
        x, z = chance.choice(corners(web))
        web = made(web.size + 1, web.links + ((x, web.size), (z, web.size)))
    for _ in range(more):
        if far_links(web):
            web = made(web.size, web.links + (chance.choice(far_links(web)),))
    return renamed(web, chance.random())


def stout_webs():
    """Connected stout webs of 4 to 12 cells and up to 24 links, one-sided and two-sided."""
    webs = [grid(2, 2), grid(2, 3), full(4), full(5), two_rows(2, 3), two_rows(3, 3), collar(3), collar(4), collar(6)]
    webs += [grid(3, 4), grid(2, 6), two_rows(2, 10), two_rows(4, 6)]
    chance = Random(23)
    for seed in (grid(2, 2), full(4)):
        for size in range(5, 13):
            least = len(seed.links) + 2 * (size - 4)
            webs += [grown(seed, size, more, chance) for more in (0, min(3, 24 - least), 24 - least)]
    return [web for web in webs if len(web.links) <= 24]


def slow_far(world, floor):
    """How many deeds away from the floor each floor is that is the same, by following all deeds."""
    away, reached = {floor: 0}, [floor]
    for here in reached:
        for deed in let_deeds(world, here):
            there = slow_after(here, deed)
            if there not in away:
                away[there] = away[here] + 1
                reached.append(there)
    return away


def slow_loaded(web, floor):
    shades = slow_sides(web)
    return tuple(x for x in range(web.size) if (shades[x], floor[x]) in ((0, 1), (1, 0)))


def slow_fits(web, one, two):
    first, second = slow_loaded(web, one), slow_loaded(web, two)
    return all(len(set(first) & set(part)) == len(set(second) & set(part)) for part in slow_parts(web))


def tree(n, seed):
    """A web of n cells without rounds."""
    chance = Random(seed)
    return renamed(made(n, [(chance.randrange(x), x) for x in range(1, n)]), seed)


def two_sided_webs():
    """Small webs whose parts are all two-sided, of all kinds, of one part and of several."""
    webs = [line(n) for n in range(1, 8)] + [ring(4), ring(6), grid(2, 3), grid(2, 4), two_rows(3, 3), two_rows(2, 4), two_rows(1, 5)]
    webs += [tree(n, n) for n in (4, 5, 6, 7, 8)] + [renamed(ring(6), 3), renamed(grid(2, 3), 4), renamed(ring(8), 5), Web(3, ())]
    webs += [side_by_side(line(2), line(1), line(3)), renamed(side_by_side(ring(4), line(3)), 6)]
    return webs + [renamed(side_by_side(line(2), line(2), line(2)), 7), side_by_side(line(1), grid(2, 2), line(2))]


def random_load(web, shades, many, chance):
    """A floor in two coats with so many loaded cells, chosen at random."""
    cells = chance.sample(range(web.size), many)
    return tuple(1 - side if x in cells else side for x, side in enumerate(shades))
