"""Answers: what tells whether floors come of one another."""

from pairfloors.cores import core_of, ring_row
from pairfloors.errors import Narrow
from pairfloors.floors import checked_floor, stirs, worn
from pairfloors.kinds import kind
from pairfloors.parts import parts
from pairfloors.sides import sides
from pairfloors.surplus import odd_coats, surplus


def answer(world, floor):
    """The answer of the floor: an entry for each part."""
    checked_floor(world, floor)
    return tuple([entry(world, floor, part) for part in parts(world.web)])


def same(world, one, two):
    """Whether the answers of the two floors are equal."""
    first, second = two_answers(world, one, two)
    return first == second


def two_answers(world, one, two):
    """The answers of two floors, both of which are checked before either is answered."""
    checked_floor(world, one)
    checked_floor(world, two)
    return (answer(world, one), answer(world, two))


def entry(world, floor, part):
    """The entry of one part in the answer of the floor."""
    x = part[0]
    if not stirs(world, floor, x):
        return ("still", worn(floor, part))
    name = kind(world.web, x)
    if name == "narrow":
        raise Narrow(x)
    if name == "ring":
        return ("ring", core_along(world.web, floor, x))
    if sides(world.web)[x] < 0:
        return ("odd", odd_coats(world, floor, x))
    return ("sides", surplus(world, floor, x))


def core_along(web, floor, x):
    """The core of the coats along the ring row of the part of x."""
    return core_of(worn(floor, ring_row(web, x)))
