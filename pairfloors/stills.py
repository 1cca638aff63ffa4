"""Still floors, and the classes of floors that are the same."""

from pairfloors.answers import core_along
from pairfloors.errors import Narrow
from pairfloors.floornumbers import check_small
from pairfloors.floors import stirs
from pairfloors.kinds import kind
from pairfloors.lotorder import key_of, row_behind
from pairfloors.lots import check_connected, key_row, lot_size
from pairfloors.parts import part_web, parts
from pairfloors.ringtallies import core_count, ring_lot
from pairfloors.sides import sides
from pairfloors.surplusrows import surplus_count
from pairfloors.tallies import odd_count
from pairfloors.worlds import LEAST_COATS, check_coats


def still_count(web, coats):
    """How many floors of the web have no two linked cells that are alike."""
    check_coats(coats)
    check_small(coats, web.size)
    return still_floors(web, coats)


def still_lot(web, coats, key):
    """How many floors in the lot of the key have no two linked cells that are alike."""
    check_connected(web)
    check_coats(coats)
    check_small(coats, web.size)
    row = key_row(web, coats, key)
    return still_ways(web, row).get((0,) * coats, 0)


def class_count(web, coats):
    """How many classes of floors the web has."""
    check_coats(coats)
    pieces = [(kind(web, part[0]), part) for part in parts(web)]
    for name, part in pieces:
        if name == "narrow":
            raise Narrow(part[0])
    for _, part in pieces:
        check_small(coats, len(part))
    total = 1
    for name, part in pieces:
        piece = part_web(web, part[0])
        total *= still_floors(piece, coats) + stirring_answers(piece, coats, name)
    return total


def class_size(world, floor):
    """How many floors are the same as the floor."""
    web = world.web
    check_connected(web)
    if not stirs(world, floor, 0):
        return 1
    name = kind(web, 0)
    if name == "narrow":
        raise Narrow(0)
    if name == "ring":
        return ring_lot(web.size, world.coats, core_along(web, floor, 0))
    return stirring_lot(world, key_of(world, floor))


def stirring_lot(world, key):
    """How many floors in the lot of the key of a stirring floor stir, on a stout web."""
    many = lot_size(world.web, world.coats, key)
    # In two coats the key of a still floor is that of no other one.
    if world.coats == LEAST_COATS:
        return many
    return many - still_lot(world.web, world.coats, key)


def stirring_answers(web, coats, name):
    """How many answers stirring floors have on a connected web of the kind that name tells, which is not narrow."""
    if name == "dot":
        return 0
    if name == "ring":
        return core_count(web.size, coats)
    shades = sides(web)
    if -1 in shades:
        return odd_count(web.size, coats)
    return surplus_count(shades.count(0), shades.count(1), coats)


def still_floors(web, coats):
    """How many still floors the web has, whatever their keys."""
    return sum(list(still_ways(web, (0,) * coats).values()))


def still_ways(web, row):
    """For each row that a still floor of the web leaves of row, as row_behind tells it, how many of them do."""
    shades = sides(web)
    ways = {((), row): 1}
    for x, side in enumerate(shades):
        found = {}
        for (worn, left), many in ways.items():
            for coat in coats_at(web, x, worn, len(row)):
                state = (remembered(web, worn + (coat,)), row_behind(left, coat, side))
                found[state] = found.get(state, 0) + many
        ways = found
    return {left: many for (_, left), many in ways.items()}


def coats_at(web, x, worn, coats):
    """The coats that the cell x may take if no near cell before it wears the same."""
    barred = [worn[y] for y in web.near(x) if y < x]
    return [coat for coat in range(coats) if coat not in barred]


def remembered(web, worn):
    """The coats of the first cells, those cells blotted out that are linked to none of the cells behind.

    Floors that are alike but for such cells go on alike, and so are counted together.
    """
    return tuple([coat if max(web.near(y), default=-1) >= len(worn) else -1 for y, coat in enumerate(worn)])
