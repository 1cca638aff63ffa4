"""What a keeper is made of: its base and its bends."""

from pairfloors.keepers import cell_signs, is_keeper
from pairfloors.parts import parts
from pairfloors.weighings import check_weighing, rest


def keeper_parts(world, weighing, modulus):
    """The base and the bends of the weighing, all numbers as rests; None if it is no keeper for the modulus."""
    check_weighing(world, weighing, modulus)
    if not is_keeper(world, weighing, modulus):
        return None
    base = tuple([rest(row[0], modulus) for row in weighing])
    bends = tuple([bend(weighing[part[0]], modulus) for part in parts(world.web)])
    return (base, bends)


def keeper_of(world, base, bends, modulus):
    """The keeper that is made of a base and bends, all numbers as rests."""
    signs = cell_signs(world.web)
    rows = [()] * world.web.size
    for part, numbers in zip(parts(world.web), bends):
        for x in part:
            rows[x] = tuple([rest(base[x] + signs[x] * number, modulus) for number in numbers])
    return tuple(rows)


def bend(row, modulus):
    """How much more each coat has than coat 0 in the row of a cell, as rests."""
    return tuple([rest(number - row[0], modulus) for number in row])
