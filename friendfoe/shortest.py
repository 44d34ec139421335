"""A shortest odd ring, with layers that show that none is shorter."""

from friendfoe.ways import ties_around, walk_from, way_to


def doubled(web):
    """The web with an even and an odd place, 2 * p and 2 * p + 1, for each place p; a foe tie leads from even to odd.

    So a way from the even place to the odd one is a walk back to the same place with an odd number of foes. The two
    ties for tie t have the numbers 2 * t and 2 * t + 1.
    """
    ties = []
    for one, other, kind in web[1]:
        swap = 1 if kind == "foe" else 0
        ties.append((2 * one, 2 * other + swap, "friend"))
        ties.append((2 * one + 1, 2 * other + 1 - swap, "friend"))
    return (2 * web[0], tuple(ties))


def halved(way):
    """The ring of the web, for the way in the doubled web from an even place to its odd one."""
    places, ties = way
    return (tuple([place // 2 for place in places[:-1]]), tuple([tie // 2 for tie in ties]))


def row_of(many, walk, far):
    """The row of layers by a walk through so many doubled places: steps, and far where none lead."""
    return tuple([walk[place][0] if place in walk else far for place in range(many)])


def shortest_odd(web):
    """None, or (ring, layers): an odd ring with as few ties as any, and layers that hold for how many these are."""
    double = doubled(web)
    around = ties_around(double, list(range(len(double[1]))))
    walks = [walk_from(2 * place, around) for place in range(web[0])]
    lengths = [(walk[2 * place + 1][0], place) for place, walk in enumerate(walks) if 2 * place + 1 in walk]
    if not lengths:
        return None
    # No place stands twice in the shortest such walk: one of the two it would fall into is odd, and shorter.
    length, start = min(lengths)
    ring = halved(way_to(2 * start + 1, walks[start]))
    # Where no steps lead, no tie leads from what has steps, so that one number for all of it is near enough.
    return (ring, tuple([row_of(double[0], walk, length) for walk in walks]))
