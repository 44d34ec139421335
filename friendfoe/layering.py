"""Layers: a paper that no odd ring has fewer ties than a number."""

from friendfoe.things import is_tuple_of, is_whole_from


def is_row(many, thing):
    """Whether it is an even and an odd whole number from 0 on for each of so many places."""
    return is_tuple_of(2 * many, thing) and all(is_whole_from(0, number) for number in thing)


def are_near(one, other):
    """Whether two numbers differ by at most one."""
    return abs(one - other) <= 1


def near_along(row, tie):
    """Whether the row's numbers differ by at most one along the tie; a foe tie leads from even to odd."""
    one, other, kind = tie
    swap = 1 if kind == "foe" else 0
    return are_near(row[2 * one], row[2 * other + swap]) and are_near(row[2 * one + 1], row[2 * other + 1 - swap])


def row_holds(web, number, start, thing):
    """Whether it is a row that holds for the number, as the place start's one."""
    if not is_row(web[0], thing):
        return False
    if thing[2 * start] != 0 or thing[2 * start + 1] < number:
        return False
    return all(near_along(thing, tie) for tie in web[1])


def layers_hold(web, number, thing):
    """Whether it is layers of the web that hold for the number."""
    if not is_tuple_of(web[0], thing):
        return False
    return all(row_holds(web, number, start, row) for start, row in enumerate(thing))
