"""Webs and their weights."""

from friendfoe.things import are_unlike_places, is_tuple_of, is_whole_from

KINDS = ("friend", "foe")


def is_tie(many, thing):
    """Whether it is a tie of a web with so many places."""
    if not is_tuple_of(3, thing):
        return False
    one, other, kind = thing
    return are_unlike_places(many, one, other) and kind in KINDS


def is_web(thing):
    """Whether it is a web."""
    if not is_tuple_of(2, thing):
        return False
    many, ties = thing
    if not is_whole_from(1, many) or not isinstance(ties, tuple):
        return False
    return all(is_tie(many, tie) for tie in ties)


def is_weights(web, thing):
    """Whether it is weights of the web."""
    if thing is None:
        return True
    if not is_tuple_of(len(web[1]), thing):
        return False
    return all(is_whole_from(1, weight) for weight in thing)


def weight_of(weights, tie):
    """The weight of the tie of a number."""
    if weights is None:
        return 1
    return weights[tie]
