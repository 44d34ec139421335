"""The small checker of papers that no sides of k hold, whoever wrote them.

Throughout, heads is a dict of the places, each with one place of its friends that stands for all of them, and foes a
list of pairs of places, one for each foe tie; both with the sure ties.
"""

from friendfoe.several import heads_of
from friendfoe.things import are_rising_below, are_unlike_places, is_tuple_of


def crowd_holds(k, heads, foes, thing):
    """Whether it is k + 1 places of unlike friends, from any of which to any other foe ties lead."""
    if not are_rising_below(len(heads), thing) or len(thing) != k + 1:
        return False
    led = {}
    for one, other in foes:
        led[(heads[one], heads[other])] = True
        led[(heads[other], heads[one])] = True
    crowd = [heads[place] for place in thing]
    if len(set(crowd)) != len(crowd):
        return False
    return all((one, other) in led for one in crowd for other in crowd if one != other)


def clash_holds(heads, foes, one, other):
    """Whether it is two places of the same friends that a foe tie joins."""
    if not are_unlike_places(len(heads), one, other) or heads[one] != heads[other]:
        return False
    return (one, other) in foes or (other, one) in foes


def case_holds(k, heads, foes, thing):
    """Whether it is two places and a paper for each of the two ties that may be between them."""
    word, one, other, together, apart = thing
    if not are_unlike_places(len(heads), one, other):
        return False
    joined = {place: heads[one] if heads[place] == heads[other] else heads[place] for place in heads}
    return paper_holds(k, joined, foes, together) and paper_holds(k, heads, foes + [(one, other)], apart)


def paper_holds(k, heads, foes, thing):
    """Whether it is a paper of any of the three words."""
    if is_tuple_of(2, thing) and thing[0] == "crowd":
        return crowd_holds(k, heads, foes, thing[1])
    if is_tuple_of(3, thing) and thing[0] == "clash":
        return clash_holds(heads, foes, thing[1], thing[2])
    return is_tuple_of(5, thing) and thing[0] == "case" and case_holds(k, heads, foes, thing)


def none_holds(web, k, thing):
    """Whether it is a paper that no sides of k hold."""
    foes = [(one, other) for one, other, kind in web[1] if kind == "foe"]
    return paper_holds(k, heads_of(web), foes, thing)
