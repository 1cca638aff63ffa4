"""Weighings: numbers for cells and coats, and what a floor weighs by them."""

from pairfloors.errors import BadNumber, BadWeighing
from pairfloors.floors import checked_floor
from pairfloors.forms import are_numbers, is_number

MOST_MODULUS = 1000000


def weigh(world, floor, weighing, modulus):
    """What the floor weighs."""
    checked_floor(world, floor)
    check_weighing(world, weighing, modulus)
    return rest(sum([row[coat] for row, coat in zip(weighing, floor)]), modulus)


def check_weighing(world, weighing, modulus):
    """Refuse what is no weighing for the world, then what is no modulus."""
    if len(weighing) != world.web.size:
        raise BadWeighing(len(weighing))
    for x, row in enumerate(weighing):
        if not are_numbers(row, world.coats):
            raise BadWeighing(x)
    if not is_modulus(modulus):
        raise BadNumber(modulus)


def is_weighing(world, value):
    """Whether value, which may be anything, is a weighing for the world."""
    if not isinstance(value, tuple) or len(value) != world.web.size:
        return False
    return all([are_numbers(row, world.coats) for row in value])


def is_modulus(value):
    """Whether value, which may be anything, is a modulus."""
    return is_number(value) and (value == 0 or 2 <= value <= MOST_MODULUS)


def rest(number, modulus):
    """The rest of the number by the modulus, the number itself for the modulus 0."""
    if modulus == 0:
        return number
    return number % modulus
