"""The parts of a web, and walks through it."""


def neighbours(web):
    """For each place a list of (place, kind), one for each of its ties."""
    many, ties = web
    around = [[] for place in range(many)]
    for one, other, kind in ties:
        around[one].append((other, kind))
        around[other].append((one, kind))
    return around


def sides_from(start, around):
    """A dict of the places that ties lead to from start, each with the side that the way to it gives; 0 at start.

    Where the ways to a place don't agree the side is that of one of them: who needs sides that hold asks for it.
    """
    sides = {start: 0}
    waiting = [start]
    while waiting:
        place = waiting.pop()
        for other, kind in around[place]:
            if other not in sides:
                sides[other] = sides[place] if kind == "friend" else 1 - sides[place]
                waiting.append(other)
    return sides


def parts_of(web):
    """A tuple of rising tuples of places, by their first places."""
    around = neighbours(web)
    parts = []
    placed = {}
    for start in range(web[0]):
        if start not in placed:
            part = sides_from(start, around)
            placed.update(part)
            parts.append(tuple(sorted(part)))
    return tuple(parts)


def ties_within(web, part):
    """The numbers, rising, of the ties between places of a part."""
    return tuple([number for number, tie in enumerate(web[1]) if tie[0] in part])
