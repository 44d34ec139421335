"""Orders of ties around places, the faces between them, and flat ones."""

from friendfoe.errors import NotFlat
from friendfoe.parting import parts_of, ties_within
from friendfoe.ringing import are_unlike_below
from friendfoe.things import is_tuple_of


def ties_at(web):
    """For each place a list of the numbers, rising, of its ties."""
    rows = [[] for place in range(web[0])]
    for number, (one, other, kind) in enumerate(web[1]):
        rows[one].append(number)
        rows[other].append(number)
    return rows


def is_orders(web, thing):
    """Whether it is orders of the web."""
    if not is_tuple_of(web[0], thing):
        return False
    # Kinds first: what is no whole number may not be fit to be sorted.
    if not all(are_unlike_below(len(web[1]), row) for row in thing):
        return False
    return all(sorted(row) == ties for row, ties in zip(thing, ties_at(web)))


def steps_behind(web, orders):
    """A dict of all steps, (tie, place), each with the step behind it."""
    behind = {}
    for place, row in enumerate(orders):
        for tie, following in zip(row, row[1:] + row[:1]):
            one, other, kind = web[1][tie]
            behind[(tie, other if place == one else one)] = (following, place)
    return behind


def face_from(first, behind):
    """The face that begins with the step."""
    face = [first]
    while behind[face[-1]] != first:
        face.append(behind[face[-1]])
    return tuple(face)


def faces_of(web, orders):
    """A tuple of faces, each a tuple of steps from its least one on, by these."""
    behind = steps_behind(web, orders)
    faces = []
    placed = {}
    for step in sorted(behind):
        if step not in placed:
            face = face_from(step, behind)
            faces.append(face)
            for other in face:
                placed[other] = True
    return tuple(faces)


def are_flat_faces(web, faces):
    """Whether the orders that have these faces are flat."""
    for part in parts_of(web):
        ties = ties_within(web, part)
        own = [face for face in faces if face[0][1] in part]
        if ties and len(part) - len(ties) + len(own) != 2:
            return False
    return True


def are_flat(web, orders):
    """Whether the orders are flat."""
    return are_flat_faces(web, faces_of(web, orders))


def flat_faces(web, orders):
    """The faces of flat orders; NotFlat of others."""
    faces = faces_of(web, orders)
    if not are_flat_faces(web, faces):
        raise NotFlat("in some part the places less the ties plus the faces don't come to 2")
    return faces


def odd_among(web, faces):
    """The numbers, rising, of the faces with an odd number of steps along foe ties."""
    foes = [len([tie for tie, place in face if web[1][tie][2] == "foe"]) for face in faces]
    return tuple([number for number, many in enumerate(foes) if many % 2 == 1])


def odd_faces(web, orders):
    """The numbers, rising, of the odd faces."""
    return odd_among(web, faces_of(web, orders))


def faces_beside(web, faces):
    """For each tie (face, other face): the numbers of those in which the steps along it stand, one way and back."""
    found = {step: number for number, face in enumerate(faces) for step in face}
    return [(found[(tie, one)], found[(tie, other)]) for tie, (one, other, kind) in enumerate(web[1])]
