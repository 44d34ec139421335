"""Mends: ties without which some sides hold, and those of the least weight."""

from friendfoe.errors import TooMany
from friendfoe.parting import neighbours, parts_of, sides_from, ties_within
from friendfoe.siding import breaks, sides_of
from friendfoe.things import are_rising_below
from friendfoe.webs import weight_of

MOST_PLACES = 8


def without(web, numbers):
    """The web without the ties of these numbers."""
    gone = {number: True for number in numbers}
    return (web[0], tuple([tie for number, tie in enumerate(web[1]) if number not in gone]))


def mend_holds(web, thing):
    """Whether it is a mend of the web."""
    return are_rising_below(len(web[1]), thing) and sides_of(without(web, thing)) is not None


def mend_weight(weights, ties):
    """The weight of all ties of these numbers."""
    return sum(weight_of(weights, tie) for tie in ties)


def odd_parts(web):
    """A list of (places, numbers of ties) for each part in which there is an odd ring."""
    around = neighbours(web)
    rows = []
    for part in parts_of(web):
        ties = ties_within(web, part)
        sides = sides_from(part[0], around)
        if any(breaks(sides, web[1][tie]) for tie in ties):
            rows.append((part, ties))
    return rows


def small_odd_parts(web):
    """The same, refused where the sides of one of them are too many to be gone through."""
    rows = odd_parts(web)
    if any(len(part) > MOST_PLACES for part, ties in rows):
        raise TooMany("a part in which there is an odd ring has more than eight places")
    return rows


def all_sides(part):
    """A list of dicts, all sides of the part's places with 0 at the first: the others break the same ties."""
    choices = [{part[0]: 0}]
    for place in part[1:]:
        choices = [{**sides, place: side} for sides in choices for side in (0, 1)]
    return choices


def least_of_part(web, weights, part, ties):
    """(weight, ties): the part's ties of least weight that sides of it break."""
    rows = []
    for sides in all_sides(part):
        broken = tuple([tie for tie in ties if breaks(sides, web[1][tie])])
        rows.append((mend_weight(weights, broken), broken))
    return min(rows)


def least_mend(web, weights=None):
    """(weight, ties): the least weight of a mend, and a mend of it."""
    told = []
    for part, ties in small_odd_parts(web):
        told.extend(least_of_part(web, weights, part, ties)[1])
    return (mend_weight(weights, told), tuple(sorted(told)))
