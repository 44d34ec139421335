"""Two sides: which ties they break, and the fixed choice of those that hold."""

from friendfoe.parting import neighbours, sides_from
from friendfoe.things import is_tuple_of, is_whole_below


def is_sides(web, thing):
    """Whether it is sides of the web."""
    if not is_tuple_of(web[0], thing):
        return False
    return all(is_whole_below(2, side) for side in thing)


def breaks(sides, tie):
    """Whether the sides break the tie."""
    one, other, kind = tie
    return (sides[one] == sides[other]) == (kind == "foe")


def broken_by(web, sides):
    """The numbers, rising, of the ties that the sides break."""
    return tuple([number for number, tie in enumerate(web[1]) if breaks(sides, tie)])


def sides_hold(web, thing):
    """Whether it is sides that break no tie."""
    return is_sides(web, thing) and broken_by(web, thing) == ()


def sides_of(web):
    """The sides that hold and have 0 at the first place of each part, or None where none hold."""
    around = neighbours(web)
    told = {}
    for start in range(web[0]):
        if start not in told:
            told.update(sides_from(start, around))
    sides = tuple([told[place] for place in range(web[0])])
    # Within a part the first place's side gives all others: where these break a tie, so do any.
    if broken_by(web, sides) != ():
        return None
    return sides
