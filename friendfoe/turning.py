"""Webs turned about at places, stems, and the plain web."""

from friendfoe.siding import sides_of
from friendfoe.ways import ties_around, walk_from, way_to


def turned_tie(tie, among):
    """The tie, of the other kind where just one of its places is among these."""
    one, other, kind = tie
    if (one in among) == (other in among):
        return tie
    return (one, other, "foe" if kind == "friend" else "friend")


def turned(web, places):
    """The web turned at the places."""
    among = {place: True for place in places}
    return (web[0], tuple([turned_tie(tie, among) for tie in web[1]]))


def places_turned(sides):
    """The places, rising, at which a web in which the sides hold is turned to have friends alone."""
    return tuple([place for place, side in enumerate(sides) if side == 1])


def stems(web):
    """The numbers, rising, of the ties that join two places which no ties of lesser numbers join by a way."""
    labels = list(range(web[0]))
    numbers = []
    for number, (one, other, kind) in enumerate(web[1]):
        old, new = labels[one], labels[other]
        if old != new:
            numbers.append(number)
            labels = [new if label == old else label for label in labels]
    return tuple(numbers)


def ring_closed(web, tie):
    """The ring that the tie of a number, which is no stem, closes with stems."""
    one, other, kind = web[1][tie]
    places, ties = way_to(other, walk_from(one, ties_around(web, stems(web))))
    return (places, ties + (tie,))


def plain(web):
    """The web turned so that all its stems are friends, at the first place of no part."""
    # The stems lead wherever the ties do, and close no ring: their parts are the web's, and some sides hold.
    stem_web = (web[0], tuple([web[1][number] for number in stems(web)]))
    return turned(web, places_turned(sides_of(stem_web)))
