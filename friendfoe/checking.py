"""The small checker: what number a paper shows, whoever wrote it.

Throughout, web has the sure ties behind its own ones, limits has twice the weight of each of its own, and given is a
dict of those that the knot is for; each function tells None where the thing is no such knot.
"""

from friendfoe.ringing import odd_ring_holds
from friendfoe.things import are_rising_below, are_unlike_places, is_tuple_of, is_whole_from
from friendfoe.webs import weight_of


def is_ring_row(web, limits, given, thing):
    """Whether it is an odd ring of given and sure ties, and times."""
    if not is_tuple_of(2, thing):
        return False
    ring, times = thing
    if not is_whole_from(1, times) or not odd_ring_holds(web, ring):
        return False
    return all(tie in given or tie >= len(limits) for tie in ring[1])


def rings_show(web, limits, given, rows):
    """Half of all times, upwards."""
    total = 0
    used = {}
    for row in rows:
        if not is_ring_row(web, limits, given, row):
            return None
        ring, times = row
        total += times
        for tie in ring[1]:
            used[tie] = used.get(tie, 0) + times
    if any(tie < len(limits) and used[tie] > limits[tie] for tie in used):
        return None
    return (total + 1) // 2


def is_split_row(limits, given, taken, thing):
    """Whether it is given ties that none of the rows ahead has taken, and something for them."""
    if not is_tuple_of(2, thing) or not are_rising_below(len(limits), thing[0]):
        return False
    return all(tie in given and tie not in taken for tie in thing[0])


def split_shows(web, limits, given, rows):
    """The sum of what the rows' papers show."""
    total = 0
    taken = {}
    for row in rows:
        if not is_split_row(limits, given, taken, row):
            return None
        own = {tie: True for tie in row[0]}
        taken.update(own)
        shown = knot_shows(web, limits, own, row[1])
        if shown is None:
            return None
        total += shown
    return total


def case_shows(web, limits, given, thing):
    """The lesser of what both papers show."""
    word, one, other, together, apart = thing
    if not are_unlike_places(web[0], one, other):
        return None
    shown = []
    for kind, paper in (("friend", together), ("foe", apart)):
        surer = (web[0], web[1] + ((one, other, kind),))
        shown.append(knot_shows(surer, limits, given, paper))
    return None if None in shown else min(shown)


def knot_shows(web, limits, given, thing):
    """What a knot of any of the three words shows."""
    if is_tuple_of(5, thing) and thing[0] == "case":
        return case_shows(web, limits, given, thing)
    if not is_tuple_of(2, thing) or not isinstance(thing[1], tuple):
        return None
    word, rows = thing
    if word == "rings":
        return rings_show(web, limits, given, rows)
    return split_shows(web, limits, given, rows) if word == "split" else None


def shown_by(web, weights, thing):
    """The number that the paper shows, or None where it is no paper."""
    limits = [2 * weight_of(weights, tie) for tie in range(len(web[1]))]
    given = {tie: True for tie in range(len(web[1]))}
    return knot_shows(web, limits, given, thing)
