"""Ways along ties, with as few of them as any way has."""


def ties_around(web, numbers):
    """A dict of the places that ties of these numbers join, each with a list of (other place, tie's number)."""
    around = {}
    for number in numbers:
        one, other, kind = web[1][number]
        around.setdefault(one, []).append((other, number))
        around.setdefault(other, []).append((one, number))
    return around


def walk_from(start, around):
    """A dict of the places that ties lead to from start, each with (steps, place ahead, number of the tie come by)."""
    walk = {start: (0, None, None)}
    reached = [start]
    steps = 0
    while reached:
        steps += 1
        following = []
        for place in reached:
            for other, number in around.get(place, ()):
                if other not in walk:
                    walk[other] = (steps, place, number)
                    following.append(other)
        reached = following
    return walk


def way_to(end, walk):
    """The way from the walk's start to end: its places and the numbers of its ties, a pair of tuples."""
    places = [end]
    numbers = []
    steps, ahead, number = walk[end]
    while ahead is not None:
        places.append(ahead)
        numbers.append(number)
        steps, ahead, number = walk[ahead]
    return (tuple(places[::-1]), tuple(numbers[::-1]))
