"""Rings, and odd ones."""

from friendfoe.things import is_tuple_of, is_whole_below


def are_unlike_below(limit, thing):
    """Whether it is a tuple of unlike whole numbers from 0 on, each less than limit."""
    if not isinstance(thing, tuple):
        return False
    # Kinds first: what is no whole number may not be fit for a set.
    return all(is_whole_below(limit, number) for number in thing) and len(set(thing)) == len(thing)


def joins(tie, one, other):
    """Whether the tie joins these two places."""
    return (tie[0], tie[1]) in ((one, other), (other, one))


def ring_holds(web, thing):
    """Whether it is a ring of the web."""
    if not is_tuple_of(2, thing):
        return False
    places, ties = thing
    if not are_unlike_below(web[0], places) or not are_unlike_below(len(web[1]), ties):
        return False
    if len(places) < 2 or len(places) != len(ties):
        return False
    followers = places[1:] + places[:1]
    return all(joins(web[1][tie], one, other) for tie, one, other in zip(ties, places, followers))


def foes_in(web, ring):
    """How many foe ties the ring has."""
    return len([tie for tie in ring[1] if web[1][tie][2] == "foe"])


def odd_ring_holds(web, thing):
    """Whether it is a ring of the web with an odd number of foe ties."""
    return ring_holds(web, thing) and foes_in(web, thing) % 2 == 1
