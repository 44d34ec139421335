"""The least weight of a mend of a flat web by its odd faces, and papers that none weighs less."""

from friendfoe.errors import TooMany
from friendfoe.facing import faces_beside, flat_faces, odd_among
from friendfoe.flatchecks import MOST_ODD, even_choices, without_pair
from friendfoe.mending import mend_weight
from friendfoe.ways import way_to
from friendfoe.webs import weight_of


def faces_around(web, faces, weights):
    """For each face a list of (other face, tie between them, its weight)."""
    around = [[] for face in faces]
    for tie, (one, other) in enumerate(faces_beside(web, faces)):
        around[one].append((other, tie, weight_of(weights, tie)))
        around[other].append((one, tie, weight_of(weights, tie)))
    return around


def face_walk(start, around):
    """A dict of the faces that ties lead to from start, each with (weight of the way, face ahead, tie come by)."""
    walk = {}
    waiting = {start: (0, None, None)}
    while waiting:
        so_far, near = min([(waiting[face][0], face) for face in waiting])
        walk[near] = waiting.pop(near)
        for other, tie, weight in around[near]:
            if other not in walk and (other not in waiting or so_far + weight < waiting[other][0]):
                waiting[other] = (so_far + weight, near, tie)
    return walk


def layer_of(many, walk, far):
    """The weights of the ways to so many faces, and far where none lead."""
    return tuple([walk[face][0] if face in walk else far for face in range(many)])


def pairings(odd, layers):
    """A dict of the even choices of odd faces, each with (least weight of ways that pair them, pair of its first)."""
    best = {(): (0, None)}
    for choice in sorted(even_choices(odd), key=len):
        layer = layers[choice[0]]
        best[choice] = min([(layer[other] + best[without_pair(choice, other)][0], other) for other in choice[1:]])
    return best


def told_by_faces(web, orders, weights):
    """(walks, layers, pairings), the first two dicts by the odd faces."""
    faces = flat_faces(web, orders)
    odd = odd_among(web, faces)
    if len(odd) > MOST_ODD:
        raise TooMany("more than eight faces are odd")
    around = faces_around(web, faces, weights)
    walks = {face: face_walk(face, around) for face in odd}
    # No mend weighs so much: faces of two parts, between which no way leads, are never the best pair of all.
    far = mend_weight(weights, list(range(len(web[1])))) + 1
    layers = {face: layer_of(len(faces), walks[face], far) for face in odd}
    return (walks, layers, pairings(odd, layers))


def flat_mend(web, orders, weights=None):
    """(weight, ties): the least weight of a mend, and a mend of it."""
    walks, layers, best = told_by_faces(web, orders, weights)
    left = tuple(walks)
    weight = best[left][0]
    ties = []
    # The ways of the best pairs share no tie: without a shared one other pairs would have ways of less weight.
    while left:
        other = best[left][1]
        ties.extend(way_to(other, walks[left[0]])[1])
        left = without_pair(left, other)
    return (weight, tuple(sorted(ties)))


def flat_paper(web, orders, weights=None):
    """A flat paper that holds for the least weight."""
    walks, layers, best = told_by_faces(web, orders, weights)
    table = [(choice, best[choice][0]) for choice in sorted(best) if choice != ()]
    return (tuple([layers[face] for face in layers]), tuple(table))
