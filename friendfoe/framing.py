"""Two webs of one frame: places that turn one into the other, or a ring that parts them."""

from friendfoe.errors import NoFrame
from friendfoe.ringing import joins, odd_ring_holds
from friendfoe.shortest import shortest_odd
from friendfoe.siding import sides_of
from friendfoe.things import are_rising_below, is_tuple_of
from friendfoe.turning import places_turned, turned


def are_framed(one, other):
    """Whether the two webs have one frame."""
    if one[0] != other[0] or len(one[1]) != len(other[1]):
        return False
    return all(joins(tie, like[0], like[1]) for tie, like in zip(one[1], other[1]))


def kinds_of(web):
    """The kinds of the web's ties, in order."""
    return [tie[2] for tie in web[1]]


def web_between(one, other):
    """The web of their frame with friends where both have the same kind, else foes; NoFrame where they have none.

    Sides that hold in it tell where one is turned into the other, and its odd rings are those that part them.
    """
    if not are_framed(one, other):
        raise NoFrame("the webs have other places or ties between other places")
    like = ["friend" if kind == told else "foe" for kind, told in zip(kinds_of(one), kinds_of(other))]
    return (one[0], tuple([(tie[0], tie[1], kind) for tie, kind in zip(one[1], like)]))


def told_turning(one, other):
    """("turned", places), the fixed choice, or ("ring", ring), one that parts them."""
    between = web_between(one, other)
    sides = sides_of(between)
    if sides is None:
        return ("ring", shortest_odd(between)[0])
    return ("turned", places_turned(sides))


def turning_holds(one, other, thing):
    """Whether it is places that turn one into the other, or a ring that parts them, behind the word for it."""
    between = web_between(one, other)
    if not is_tuple_of(2, thing):
        return False
    word, told = thing
    if word == "turned":
        return are_rising_below(one[0], told) and kinds_of(turned(one, told)) == kinds_of(other)
    return word == "ring" and odd_ring_holds(between, told)
