"""Papers that no mend weighs less than a number."""

from friendfoe.mending import least_of_part, mend_weight, small_odd_parts
from friendfoe.siding import breaks
from friendfoe.webs import weight_of


def ring_row(web, weights, part, tie):
    """(ring, times): the ring of a broken tie and the sure ties from its places to the part's first one."""
    one, other, kind = web[1][tie]
    first = part[0]
    places = (one, other) if first in (one, other) else (one, first, other)
    # The part's other places come in turn, each with its sure tie, so that it stands there as it does in the part.
    sure = [len(web[1]) + part.index(place) - 1 for place in (one, other) if place != first]
    return ((places, (*sure, tie)), 2 * weight_of(weights, tie))


def known_broken(web, ties, sides):
    """The ties that the sides break, of those whose places both have one."""
    known = [tie for tie in ties if web[1][tie][0] in sides and web[1][tie][1] in sides]
    return [tie for tie in known if breaks(sides, web[1][tie])]


def part_paper(web, weights, row, least, sides):
    """The paper of an odd part, a row (places, ties), that shows least; sides are those that the sure ties give."""
    part, ties = row
    broken = known_broken(web, ties, sides)
    # No sides of the whole part break less than least: this ends at its last place, or ahead of it.
    if mend_weight(weights, broken) >= least:
        return ("rings", tuple([ring_row(web, weights, part, tie) for tie in broken]))
    place = part[len(sides)]
    together = part_paper(web, weights, row, least, {**sides, place: 0})
    apart = part_paper(web, weights, row, least, {**sides, place: 1})
    return ("case", part[0], place, together, apart)


def paper_of(web, weights=None):
    """A paper that shows the least weight of a mend."""
    rows = []
    for part, ties in small_odd_parts(web):
        least = least_of_part(web, weights, part, ties)[0]
        rows.append((ties, part_paper(web, weights, (part, ties), least, {part[0]: 0})))
    return ("split", tuple(rows))
