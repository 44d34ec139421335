"""Webs to ask about, and things of any kind that are no such thing."""

import copy
import itertools
import random

SIXTY = 10 ** 59  # the least whole number of sixty figures


def deep(many, make):
    """A thing so many tuples, lists or dicts deep."""
    thing = make(0)
    for level in range(many - 1):
        thing = make(thing)
    return thing


def plain_wrong():
    """Things that are no web, weights, sides, ring, layers or text of a web, whatever the web (but None: weights)."""
    return [
        None, True, False, 0, 1, 2, -1, SIXTY, -SIXTY,
        "", " ", "\n", "web", "friend", "foe", "None", "(1, ())", "x" * 6000,
        [], [1, []], [1, ()], {}, {0: 1}, {"web": 1}, {0: 1, 1: ()},
        (None,), ("",), ([],), ((),), ({},), (True,), (None, None), ("web", 1), ((), ()), ((), 1), ([], ()),
        (True, ()), (False, ()), (1, None), (1, []), (1, {}), (1, ""), (0, ()), (-1, ()), ("1", ()), (None, ()),
        deep(30, lambda part: (part,)),
        deep(30, lambda part: [part]),
        deep(30, lambda part: {0: part}),
        deep(30, lambda part: (part, part) if part == 0 else (1, part)),
        tuple(range(20000)), list(range(20000)), (None,) * 20000, tuple([()] * 19999),
        dict.fromkeys(range(10000), 0),
    ]


def other_numbers(number):
    """What may not stand where a whole number from 0 on is asked."""
    return [True, False, None, str(number), "", [number], (number,), {number: number}, {}, (), [],
            -1 - number, -1, -SIXTY, deep(27, lambda part: (part,))]


def other_texts(text):
    """What may not stand where one of the words friend and foe is asked."""
    return [None, True, 0, 1, "", text + " ", " " + text, text + "s", text[:-1], text.upper(), text.title(),
            "friendfoe", "enemy", (text,), [text], {text: text}, ()]


def other_tuples(parts):
    """What may not stand where a tuple is asked."""
    return [list(parts), dict(enumerate(parts)), None, True, 0, "", str(parts), [], {}]


def spoiled(thing):
    """Copies of a thing of tuples, whole numbers and texts, one of its parts, or itself, of another kind in each."""
    if isinstance(thing, tuple):
        yield from other_tuples(thing)
        for at, part in enumerate(thing):
            for other in spoiled(part):
                yield thing[:at] + (other,) + thing[at + 1:]
    elif isinstance(thing, str):
        yield from other_texts(thing)
    elif isinstance(thing, int):
        yield from other_numbers(thing)


def great_web(seed=1, kinds=("friend", "foe"), many=40, ties=120):
    """A web of forty places and 120 ties."""
    chance = random.Random(seed)
    rows = []
    for number in range(ties):
        one, other = chance.sample(range(many), 2)
        rows.append((one, other, chance.choice(kinds)))
    return (many, tuple(rows))


def great_holding_web(seed=1, many=40, ties=120):
    """A web of forty places and 120 ties, and sides that hold in it."""
    chance = random.Random(seed)
    sides = [chance.randrange(2) for place in range(many)]
    web = great_web(seed, ("friend",), many, ties)
    rows = [(one, other, "friend" if sides[one] == sides[other] else "foe") for one, other, kind in web[1]]
    return (many, tuple(rows)), tuple(sides)


def small_webs(many_webs=300, seed=7, places=6, ties=8):
    """Small webs of all sorts, the same ones each time."""
    chance = random.Random(seed)
    webs = [(1, ()), (2, ()), (5, ())]
    for number in range(many_webs):
        many = chance.randint(2, places)
        webs.append(great_web(chance.random(), many=many, ties=chance.randint(0, ties)))
    return webs


def all_rings(web):
    """All rings of a small web, by trying all rows of places and ties."""
    for length in range(2, web[0] + 1):
        for places in itertools.permutations(range(web[0]), length):
            pairs = [{places[at], places[(at + 1) % length]} for at in range(length)]
            between = [[number for number, tie in enumerate(web[1]) if set(tie[:2]) == pair] for pair in pairs]
            for ties in itertools.product(*between):
                if len(set(ties)) == length:
                    yield (places, ties)


def ring_web(many, foes):
    """A web of one ring, its first ties foes; of two places: two ties of the same ones."""
    return (many, tuple((place, (place + 1) % many, "foe" if place < foes else "friend") for place in range(many)))


def full_web(many):
    """Foes between any two places: an odd ring of three, wherever one looks."""
    return (many, tuple((one, other, "foe") for one, other in itertools.combinations(range(many), 2)))


def beside(*webs):
    """One web of these ones as its parts, the places behind those of the ones ahead, and likewise the ties."""
    many, ties = 0, ()
    for web in webs:
        ties += tuple((one + many, other + many, kind) for one, other, kind in web[1])
        many += web[0]
    return (many, ties)


def renumbered(web, seed):
    """The web with its places and ties numbered otherwise, ties written either way; and the new numbers of both."""
    chance = random.Random(seed)
    places, numbers = list(range(web[0])), list(range(len(web[1])))
    chance.shuffle(places)
    chance.shuffle(numbers)
    ties = [None] * len(numbers)
    for number, (one, other, kind) in enumerate(web[1]):
        one, other = chance.sample([places[one], places[other]], 2)
        ties[numbers[number]] = (one, other, kind)
    return (web[0], tuple(ties)), places, numbers


def about(web, seed=1):
    """The web with some of its ties written the other way about."""
    chance = random.Random(seed)
    return (web[0], tuple((*chance.sample([one, other], 2), kind) for one, other, kind in web[1]))


def flipped(web, number):
    """The web with the tie of this number of the other kind, and written the other way about."""
    one, other, kind = web[1][number]
    return (web[0], web[1][:number] + ((other, one, "foe" if kind == "friend" else "friend"),) + web[1][number + 1:])


def some_places(web, seed):
    """Some of the places, rising."""
    chance = random.Random(seed)
    return tuple(place for place in range(web[0]) if chance.randrange(2))


def all_choices(many):
    """All rising tuples of numbers less than many."""
    for length in range(many + 1):
        yield from itertools.combinations(range(many), length)


def mixed_parts(*webs, seed=1):
    """One web of these ones as its parts, the places and ties of all numbered amid one another."""
    return renumbered(beside(*webs), seed)[0]


def some_weights(web, seed, most=9):
    """Weights from 1 to most, some of them at either end."""
    chance = random.Random(seed)
    return tuple(chance.choice([1, most, chance.randint(1, most)]) for tie in web[1])


def changed(thing, chance, parts):
    """The thing with one part, anywhere in it, another: one of parts, one more or less, or gone, or there twice."""
    if isinstance(thing, tuple) and thing and chance.random() < 0.85:
        at = chance.randrange(len(thing))
        way = chance.random()
        if way < 0.08:
            return thing[:at] + thing[at + 1:]
        if way < 0.16:
            return thing[:at + 1] + thing[at:]
        if way < 0.24:
            other = chance.randrange(len(thing))
            row = list(thing)
            row[at], row[other] = row[other], row[at]
            return tuple(row)
        return thing[:at] + (changed(thing[at], chance, parts),) + thing[at + 1:]
    if type(thing) is int and chance.random() < 0.6:
        return thing + chance.choice([-1, 1])
    return chance.choice(parts)


def face_corners(ties, orders, first):
    """The corners of the face of a step, each (place come to, tie come by), by a walk of its own."""
    corners = []
    tie, place = first
    while not corners or (tie, place) != first:
        one, other = ties[tie]
        place = other if place == one else one
        corners.append((place, tie))
        row = orders[place]
        tie = row[(row.index(tie) + 1) % len(row)]
    return corners


def flat_frame(chance, many, ties):
    """Ties, pairs of places, and flat orders of one part: a tree, and ties that each part a face in two."""
    rows, orders = [], [[] for place in range(many)]
    for place in range(1, many):
        near = chance.randrange(place)
        orders[near].insert(chance.randint(0, len(orders[near])), len(rows))
        orders[place].append(len(rows))
        rows.append((near, place))
    while len(rows) < ties:
        tie = chance.randrange(len(rows))
        corners = face_corners(rows, orders, (tie, chance.choice(rows[tie])))
        (one, by_one), (other, by_other) = chance.choice(corners), chance.choice(corners)
        if one != other:
            for place, by in ((one, by_one), (other, by_other)):
                orders[place].insert(orders[place].index(by) + 1, len(rows))
            rows.append((one, other))
    return rows, orders


def flat_web(seed, many=6, ties=10, flips=4):
    """A web of one part and flat orders of it; at most twice as many odd faces as flips."""
    chance = random.Random(seed)
    rows, orders = flat_frame(chance, many, ties)
    sides = [chance.randrange(2) for place in range(many)]
    kinds = ["friend" if sides[one] == sides[other] else "foe" for one, other in rows]
    for turn in range(flips if rows else 0):
        number = chance.randrange(len(rows))
        kinds[number] = "foe" if kinds[number] == "friend" else "friend"
    web = (many, tuple((*chance.sample(row, 2), kind) for row, kind in zip(rows, kinds)))
    return web, spun(orders, seed)


def spun(orders, seed):
    """The same orders, each row begun anywhere."""
    chance = random.Random(seed)
    starts = [chance.randrange(len(row)) if row else 0 for row in orders]
    return tuple(tuple(row[start:]) + tuple(row[:start]) for row, start in zip(orders, starts))


def flat_beside(*pairs):
    """One web, with its orders, of these (web, orders) as its parts."""
    orders, many = (), 0
    for web, rows in pairs:
        orders += tuple(tuple(tie + many for tie in row) for row in rows)
        many += len(web[1])
    return beside(*[web for web, rows in pairs]), orders


def fan(many):
    """Two places, and ties between them by turns friend and foe: as many faces in a ring, all of them odd."""
    ties = tuple((0, 1, "foe" if number % 2 else "friend") for number in range(many))
    return (2, ties), (tuple(range(many)), tuple(range(many))[::-1])


def renumbered_orders(orders, places, numbers):
    """The orders of a web with the new numbers of places and ties that renumbered tells."""
    rows = [None] * len(orders)
    for place, row in enumerate(orders):
        rows[places[place]] = tuple(numbers[tie] for tie in row)
    return tuple(rows)


def renumbered_weights(weights, numbers):
    """The weights with the new numbers of ties that renumbered tells."""
    rows = [None] * len(weights)
    for number, at in enumerate(numbers):
        rows[at] = weights[number]
    return tuple(rows)


def least_slowly(web, weights):
    """The least weight of ties that some sides break, tried over all sides of all places."""
    ties = [(*tie, 1 if weights is None else weights[number]) for number, tie in enumerate(web[1])]
    return min(sum(weight for one, other, kind, weight in ties if (sides[one] == sides[other]) == (kind == "foe"))
               for sides in itertools.product((0, 1), repeat=web[0]))


WEBS = [
    (1, ()),
    (3, ()),
    (2, ((0, 1, "friend"),)),
    (2, ((1, 0, "foe"),)),
    (2, ((0, 1, "friend"), (0, 1, "friend"))),
    (2, ((0, 1, "friend"), (1, 0, "foe"))),
    (3, ((0, 1, "foe"), (1, 2, "foe"), (2, 0, "foe"))),
    (6, ((5, 3, "foe"), (1, 4, "friend"), (3, 1, "foe"), (4, 5, "friend"))),
    great_web(),
    great_holding_web()[0],
]

# A ring of three, each place with a foe tie to the place in the middle; flat orders of it, and others.
WHEEL = (4, ((0, 1, "friend"), (1, 2, "friend"), (2, 0, "foe"), (0, 3, "foe"), (1, 3, "foe"), (2, 3, "foe")))
FLAT = ((0, 3, 2), (1, 4, 0), (2, 5, 1), (3, 4, 5))
BAD = ((3, 0, 2), (1, 4, 0), (2, 5, 1), (3, 4, 5))

# Two ties of two places, with flat orders: both faces odd, and none.
ODD_PAIR = (ring_web(2, 1), ((0, 1), (0, 1)))
EVEN_PAIR = (ring_web(2, 2), ((0, 1), (0, 1)))


def assert_truth(case, asked, expected):
    """The answer is the truth itself, not a number or another thing that counts as one."""
    case.assertIs(asked, expected)


def assert_plain(case, thing):
    """It is of tuples, whole numbers and texts alone, without lists, truths and the like."""
    if type(thing) is tuple:
        for part in thing:
            assert_plain(case, part)
    else:
        case.assertIn(type(thing), (int, str))


def assert_steady(case, function, *handed):
    """Asked again, the same is told, and what is handed in is as it was."""
    kept = copy.deepcopy(handed)
    first = function(*handed)
    case.assertEqual(repr(handed), repr(kept))
    case.assertEqual(repr(function(*handed)), repr(first))
    case.assertEqual(repr(handed), repr(kept))
