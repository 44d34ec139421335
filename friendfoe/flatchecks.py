"""The small checker of flat papers, whoever wrote them."""

from friendfoe.facing import faces_beside, flat_faces, odd_among
from friendfoe.things import are_rising_below, is_tuple_of, is_whole_from
from friendfoe.webs import weight_of

MOST_ODD = 8


def even_choices(faces):
    """The choices of two, four and so on of the faces, a list of rising tuples, rising themselves."""
    choices = [()]
    for face in faces:
        choices = choices + [(*choice, face) for choice in choices]
    return sorted([choice for choice in choices if choice != () and len(choice) % 2 == 0])


def without_pair(choice, other):
    """The choice without its first face and the other one."""
    return tuple([face for face in choice[1:] if face != other])


def layer_holds(start, gaps, many, thing):
    """Whether it is a number for each of so many faces, 0 at start; gaps are (face, face, at most so far apart)."""
    if not is_tuple_of(many, thing) or not all(is_whole_from(0, number) for number in thing):
        return False
    return thing[start] == 0 and all(abs(thing[one] - thing[other]) <= most for one, other, most in gaps)


def is_table(choices, many, thing):
    """Whether it is a row (choice, whole number from 0 on) for each choice among so many faces, in order."""
    if not is_tuple_of(len(choices), thing) or not all(is_tuple_of(2, row) for row in thing):
        return False
    # A truth equals a number: that the parts are equal is not enough.
    if not all(are_rising_below(many, row[0]) and is_whole_from(0, row[1]) for row in thing):
        return False
    return choices == [row[0] for row in thing]


def row_holds(choice, layers, numbers):
    """Whether the choice's number is no more than what pairing its first face with any other one gives."""
    layer = layers[choice[0]]
    return all(numbers[choice] <= layer[other] + numbers[without_pair(choice, other)] for other in choice[1:])


def number_shown(odd, many, gaps, thing):
    """The number that a flat paper has for all odd faces, or None where it is no such paper."""
    choices = even_choices(odd)
    if not is_tuple_of(2, thing) or not is_tuple_of(len(odd), thing[0]) or not is_table(choices, many, thing[1]):
        return None
    layers, table = thing
    if not all(layer_holds(face, gaps, many, layer) for face, layer in zip(odd, layers)):
        return None
    numbers = {choice: number for choice, number in table}
    numbers[()] = 0
    by_face = {face: layer for face, layer in zip(odd, layers)}
    return numbers[odd] if all(row_holds(choice, by_face, numbers) for choice in choices) else None


def flat_paper_holds(web, orders, weights, number, thing):
    """Whether it is a flat paper that holds for the number; NotFlat where the orders aren't flat."""
    faces = flat_faces(web, orders)
    odd = odd_among(web, faces)
    if len(odd) > MOST_ODD:
        return False
    gaps = [(one, other, weight_of(weights, tie)) for tie, (one, other) in enumerate(faces_beside(web, faces))]
    shown = number_shown(odd, len(faces), gaps, thing)
    return shown is not None and number <= shown
