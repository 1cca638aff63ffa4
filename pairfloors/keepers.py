"""Keepers: weighings by which no deed changes what a floor weighs."""

from pairfloors.errors import BadCoat
from pairfloors.forms import check_cell, is_below
from pairfloors.parts import part_of
from pairfloors.sides import sides
from pairfloors.weighings import is_modulus, is_weighing, rest


def is_keeper(world, weighing, modulus):
    """Judge: whether weighing is a weighing for the world, modulus a modulus, and the weighing a keeper for it."""
    if not is_weighing(world, weighing) or not is_modulus(modulus):
        return False
    return all([link_keeps(world, weighing[a], weighing[b], modulus) for a, b in world.web.links])


def coat_keeper(world, x, coat):
    """The weighing that has its sign for each cell of the part of x at the coat, and 0 elsewhere."""
    check_cell(world.web, x)
    if not is_below(coat, world.coats):
        raise BadCoat(coat)
    part = part_of(world.web, x)
    signs = [sign if y in part else 0 for y, sign in enumerate(cell_signs(world.web))]
    return tuple([tuple([sign if c == coat else 0 for c in range(world.coats)]) for sign in signs])


def cell_signs(web):
    """For each cell -1 if it is dark, otherwise 1."""
    return tuple([-1 if side == 1 else 1 for side in sides(web)])


def link_keeps(world, one, two, modulus):
    """Whether the rows of two linked cells weigh the same together in both coats of each pair of the table."""
    return all([rest(one[p] + two[p] - one[r] - two[r], modulus) == 0 for p, r in world.table])
