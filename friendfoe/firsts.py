"""The first tie of a web that breaks."""

from friendfoe.standing import Stand


def first_broken(web):
    """None, or (number, ring): the first tie to break where the ties come one by one, and an odd ring of it."""
    stand = Stand(web[0])
    for number, (one, other, kind) in enumerate(web[1]):
        ring = stand.come(one, other, kind)
        if ring is not None:
            return (number, ring)
    return None
