"""What a thing of any kind is: asked ahead of any other look at it, the thing last."""


def is_whole(thing):
    """Whether it is a whole number; a truth is an int to Python, but no whole number."""
    return isinstance(thing, int) and not isinstance(thing, bool)


def is_whole_from(low, thing):
    """Whether it is a whole number from low on."""
    return is_whole(thing) and thing >= low


def is_whole_below(limit, thing):
    """Whether it is a whole number from 0 on, less than limit."""
    return is_whole(thing) and 0 <= thing < limit


def are_unlike_places(many, one, other):
    """Whether two things are unlike places of so many."""
    return is_whole_below(many, one) and is_whole_below(many, other) and one != other


def is_tuple_of(length, thing):
    """Whether it is a tuple with so many parts."""
    return isinstance(thing, tuple) and len(thing) == length


def are_rising_below(limit, thing):
    """Whether it is a rising tuple of whole numbers from 0 on, each once and less than limit."""
    if not isinstance(thing, tuple) or not all(is_whole_below(limit, number) for number in thing):
        return False
    return all(number < following for number, following in zip(thing, thing[1:]))
