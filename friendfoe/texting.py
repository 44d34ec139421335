"""Webs written and read."""

from friendfoe.errors import NoText
from friendfoe.webs import is_web, is_weights, weight_of

FIGURES = "0123456789"
MOST_FIGURES = 31


def show_web(web, weights=None):
    """The text of a web, with weights where they aren't None."""
    many, ties = web
    lines = [f"web {many}"]
    for number, (one, other, kind) in enumerate(ties):
        line = f"{one} {other} {kind}"
        lines.append(line if weights is None else f"{line} {weight_of(weights, number)}")
    return "\n".join(lines)


def writes_number(word):
    """Whether a text is a number as it is written: int() by itself takes signs, blanks and noughts ahead too."""
    if not 1 <= len(word) <= MOST_FIGURES:
        return False
    if word[0] == "0" and word != "0":
        return False
    return all(sign in FIGURES for sign in word)


def read_number(word):
    """The number that a word writes."""
    if not writes_number(word):
        raise NoText("a number is written in one to thirty-one figures, without noughts ahead")
    return int(word)


def read_many(line):
    """How many places the first line tells."""
    words = line.split(" ")
    if len(words) != 2 or words[0] != "web":
        raise NoText("the first line is the word web and a number")
    return read_number(words[1])


def read_weights(rows):
    """The weights of the ties' rows of words, or None where they have none."""
    if all(len(words) == 3 for words in rows):
        return None
    if all(len(words) == 4 for words in rows):
        return tuple([read_number(words[3]) for words in rows])
    raise NoText("a tie is two places and a kind, with a weight at all ties or at none")


def read_web(text):
    """A pair, the web that is written and its weights or None."""
    if not isinstance(text, str):
        raise NoText("only a text can be read")
    first, *lines = text.split("\n")
    many = read_many(first)
    rows = [line.split(" ") for line in lines]
    weights = read_weights(rows)
    web = (many, tuple([(read_number(words[0]), read_number(words[1]), words[2]) for words in rows]))
    if not is_web(web):
        raise NoText("a web has a place or more, and ties, friend or foe, between unlike places that are there")
    if not is_weights(web, weights):
        raise NoText("a weight is 1 or more")
    return (web, weights)
