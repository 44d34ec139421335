"""Places that move over to their other side where most of what they have is broken."""

from friendfoe.errors import TooMany
from friendfoe.mending import mend_weight
from friendfoe.siding import breaks, broken_by, is_sides
from friendfoe.webs import weight_of

MOST_MOVES = 16


def broken_weight(web, weights, sides):
    """The weight of the ties that the sides break."""
    return mend_weight(weights, broken_by(web, sides))


def leans(web, weights, sides):
    """For each place the weight of its broken ties less that of its others."""
    told = [0] * web[0]
    for number, tie in enumerate(web[1]):
        weight = weight_of(weights, number)
        lean = weight if breaks(sides, tie) else -weight
        told[tie[0]] += lean
        told[tie[1]] += lean
    return tuple(told)


def is_settled(web, weights, sides):
    """Whether no place has a lean above 0."""
    return is_sides(web, sides) and max(leans(web, weights, sides)) <= 0


def moved_over(sides, place):
    """The sides with the place on its other one."""
    return sides[:place] + (1 - sides[place],) + sides[place + 1:]


def settled(web, weights, sides):
    """(sides, places): the sides at the end, and the places moved over, in order."""
    told = leans(web, weights, sides)
    moved = []
    while max(told) > 0:
        if len(moved) == MOST_MOVES:
            raise TooMany("more than sixteen places would be moved over")
        place = told.index(max(told))
        moved.append(place)
        sides = moved_over(sides, place)
        told = leans(web, weights, sides)
    return (sides, tuple(moved))
