"""Floors by number: all floors of a world in the order of tuples, and to which of them one deed leads."""

from pairfloors.errors import BadNumber, TooLarge
from pairfloors.floors import checked_floor
from pairfloors.powers import power
from pairfloors.webs import near_rows

MOST_FLOORS = 20000


def floor_number(world, floor):
    """The number of the floor among all floors of the world."""
    number = 0
    for coat in checked_floor(world, floor):
        number = number * world.coats + coat
    return number


def floor_at(world, n):
    """The floor that has the number n among all floors of the world."""
    if not 0 <= n < floor_count(world):
        raise BadNumber(n)
    cells = []
    for _ in range(world.web.size):
        cells.append(n % world.coats)
        n //= world.coats
    return tuple(reversed(cells))


def floor_count(world):
    """How many floors the world has."""
    return power(world.coats, world.web.size)


def check_small(coats, cells):
    """Refuse so many coats for so many cells, if they make more floors than are searched."""
    many = power(coats, cells)
    if many > MOST_FLOORS:
        raise TooLarge(many)


def deed_rows(world):
    """For each number of a floor the numbers of the floors to which one deed leads, each once."""
    weights = [power(world.coats, world.web.size - 1 - x) for x in range(world.web.size)]
    links = [(a, b, weights[a] + weights[b]) for a, b in world.web.links]
    others = near_rows(world.coats, world.table)
    rows = []
    for n in range(floor_count(world)):
        floor = floor_at(world, n)
        like = [(floor[a], weight) for a, b, weight in links if floor[a] == floor[b]]
        rows.append([n + (coat - old) * weight for old, weight in like for coat in others[old]])
    return rows
