"""Several sides: friends on the same one, foes on unlike ones, and papers where there are none.

Friends stand by their first place, their head. Foes are a dict of heads, rising, each with a dict of the heads to
whose friends foe ties lead from its own.
"""

from friendfoe.errors import TooMany
from friendfoe.parting import parts_of
from friendfoe.siding import breaks
from friendfoe.things import is_tuple_of, is_whole_below
from friendfoe.ways import ties_around, walk_from, way_to

MOST_FRIENDS = 8


def friends_of(web):
    """The places put together where friend ties lead, a tuple of rising tuples, by their first places."""
    return parts_of((web[0], tuple([tie for tie in web[1] if tie[2] == "friend"])))


def several_hold(web, k, thing):
    """Whether it is sides of k that hold."""
    if not is_tuple_of(web[0], thing) or not all(is_whole_below(k, side) for side in thing):
        return False
    return not any(breaks(thing, tie) for tie in web[1])


def heads_of(web):
    """A dict of the places, each with the head of its friends."""
    return {place: friends[0] for friends in friends_of(web) for place in friends}


def ring_of_one_foe(web, heads):
    """A ring with just one foe tie, or None."""
    friendly = [number for number, tie in enumerate(web[1]) if tie[2] == "friend"]
    for number, (one, other, kind) in enumerate(web[1]):
        if kind == "foe" and heads[one] == heads[other]:
            places, ties = way_to(other, walk_from(one, ties_around(web, friendly)))
            return (places, ties + (number,))
    return None


def foes_by_part(web, heads):
    """A list of the foes of each part, where no foe tie lies within friends."""
    near = {heads[place]: {} for place in range(web[0])}
    for one, other, kind in web[1]:
        if kind == "foe":
            near[heads[one]][heads[other]] = True
            near[heads[other]][heads[one]] = True
    parts = [{head: near[head] for head in part if head in near} for part in parts_of(web)]
    if any(len(foes) > MOST_FRIENDS for foes in parts):
        raise TooMany("some part has more than eight friends")
    return parts


def sides_on(k, foes, sides):
    """A dict of sides of k for all heads, on from those of the first ones, or None where there are no such ones."""
    if len(sides) == len(foes):
        return sides
    head = list(foes)[len(sides)]
    taken = [sides[foe] for foe in foes[head] if foe in sides]
    used = len({sides[other] for other in sides})
    # Of the sides that nobody has yet each is as good as any other: the first is enough.
    for side in range(min(k, used + 1)):
        if side not in taken:
            told = sides_on(k, foes, {**sides, head: side})
            if told is not None:
                return told
    return None


def crowd_of(size, heads, foes):
    """So many of the heads, rising, any two of them foes, or None."""
    if size == 0:
        return ()
    for at, head in enumerate(heads):
        rest = crowd_of(size - 1, [other for other in heads[at + 1:] if other in foes[head]], foes)
        if rest is not None:
            return (head, *rest)
    return None


def pair_to_try(foes):
    """Two heads, the lesser first, that are no foes and have as many foes of both as any such two."""
    rows = []
    for one in foes:
        for other in foes:
            if one < other and other not in foes[one]:
                shared = [foe for foe in foes[one] if foe in foes[other]]
                rows.append((-len(shared), one, other))
    return min(rows)[1:]


def as_foes(foes, one, other):
    """The foes, with these two heads foes too."""
    return {**foes, one: {**foes[one], other: True}, other: {**foes[other], one: True}}


def as_friends(foes, one, other):
    """The foes, with the friends of these two heads put together, by the first one."""
    told = {}
    for head in foes:
        if head != other:
            told[head] = {one if foe == other else foe: True for foe in foes[head]}
    told[one] = {**foes[one], **foes[other]}
    return told


def none_paper(k, foes):
    """A paper that no sides of k hold, where there are none for these heads."""
    crowd = crowd_of(k + 1, list(foes), foes)
    if crowd is not None:
        return ("crowd", crowd)
    one, other = pair_to_try(foes)
    together = none_paper(k, as_friends(foes, one, other))
    return ("case", one, other, together, none_paper(k, as_foes(foes, one, other)))


def sides_of_places(web, heads, told):
    """The sides, place by place, from those of the heads."""
    return tuple([told[heads[place]] for place in range(web[0])])


def several(web, k):
    """("sides", sides of k that hold), ("ring", one with just one foe tie) or ("none", paper)."""
    heads = heads_of(web)
    ring = ring_of_one_foe(web, heads)
    if ring is not None:
        return ("ring", ring)
    told = {}
    for foes in foes_by_part(web, heads):
        sides = sides_on(k, foes, {})
        if sides is None:
            return ("none", none_paper(k, foes))
        told.update(sides)
    return ("sides", sides_of_places(web, heads, told))


def least_several(web):
    """("least", k, sides of k that hold, paper that none of k - 1 do, or None), or ("ring", ring)."""
    heads = heads_of(web)
    ring = ring_of_one_foe(web, heads)
    if ring is not None:
        return ("ring", ring)
    k = 1
    told = {}
    most = None
    for foes in foes_by_part(web, heads):
        sides = sides_on(k, foes, {})
        while sides is None:
            k += 1
            most = foes
            sides = sides_on(k, foes, {})
        told.update(sides)
    paper = None if most is None else none_paper(k - 1, most)
    return ("least", k, sides_of_places(web, heads, told), paper)
