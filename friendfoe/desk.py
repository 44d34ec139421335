"""A desk: a stand with weights, asked and told in rows of words."""

from friendfoe.errors import NoRow, TooMany
from friendfoe.mending import least_mend
from friendfoe.moving import broken_weight, settled
from friendfoe.several import least_several
from friendfoe.shortest import shortest_odd
from friendfoe.siding import sides_of
from friendfoe.standing import Stand
from friendfoe.texting import show_web, writes_number
from friendfoe.things import are_rising_below
from friendfoe.webs import KINDS

MOST_TIES = 120
MOST_WEIGHT = 10 ** 30


def read_number(word, low, high):
    """The number that a word writes, from low to high."""
    if not writes_number(word) or not low <= int(word) <= high:
        raise NoRow("a number is written in figures, without noughts ahead, and not too small or great")
    return int(word)


def read_places(desk, words):
    """The places that the words write."""
    last = desk.stand.web()[0] - 1
    return tuple([read_number(word, 0, last) for word in words])


def show_numbers(numbers):
    """The numbers, parted by blanks, or none."""
    return " ".join([str(number) for number in numbers]) if numbers else "none"


def tie_row(desk, words):
    """A tie comes."""
    if len(words) not in (3, 4) or words[2] not in KINDS:
        raise NoRow("a tie is two places, friend or foe, and perhaps a weight")
    one, other = read_places(desk, words[:2])
    weight = read_number(words[3], 1, MOST_WEIGHT) if len(words) == 4 else 1
    if one == other or len(desk.weights) >= MOST_TIES:
        raise NoRow("a tie joins unlike places, and at most 120 are there at a time")
    ring = desk.stand.come(one, other, words[2])
    desk.weights.append(weight)
    return "kept" if ring is None else "breaks"


def turn_row(desk, words):
    """The web is turned at places."""
    places = read_places(desk, words)
    if not places or not are_rising_below(desk.stand.web()[0], places):
        raise NoRow("a web is turned at one place or more, rising")
    desk.stand.turn(places)
    return "ok"


def between_row(desk, words):
    """How two places stand to one another."""
    if len(words) != 2:
        raise NoRow("between two places is asked")
    one, other = read_places(desk, words)
    told = desk.stand.between(one, other)
    return "free" if told is None else told


def back_row(desk):
    """The tie that came last goes."""
    if not desk.weights:
        raise NoRow("no tie is there to be taken back")
    desk.stand.back()
    desk.weights.pop()
    return "ok"


def web_row(desk):
    """The text of the web."""
    web, weights = desk.now()
    return show_web(web, weights)


def sides_row(desk):
    """The sides of the whole web."""
    sides = sides_of(desk.stand.web())
    return show_numbers(() if sides is None else sides)


def broken_row(desk):
    """The ties that broke when they came."""
    return show_numbers(desk.stand.broken())


def ring_row(desk):
    """How many ties a shortest odd ring has."""
    told = shortest_odd(desk.stand.web())
    return "none" if told is None else str(len(told[0][1]))


def mend_row(desk):
    """The least weight of a mend."""
    web, weights = desk.now()
    return str(least_mend(web, weights)[0])


def several_row(desk):
    """The least number of sides."""
    told = least_several(desk.stand.web())
    return "none" if told[0] == "ring" else str(told[1])


def settle_row(desk):
    """The broken weight behind settling."""
    web, weights = desk.now()
    sides, places = settled(web, weights, desk.stand.sides())
    return str(broken_weight(web, weights, sides))


LONE_ROWS = {
    "back": back_row, "web": web_row, "sides": sides_row, "broken": broken_row, "ring": ring_row, "mend": mend_row,
    "several": several_row, "settle": settle_row,
}
ROWS = {"tie": tie_row, "turn": turn_row, "between": between_row}


def answer_to(desk, text):
    """What a row is answered."""
    if text in LONE_ROWS:
        lone_answer = LONE_ROWS[text]
        return lone_answer(desk)
    first, *words = text.split(" ")
    if first not in ROWS:
        raise NoRow("no row begins with this word, or it stands alone")
    answer = ROWS[first]
    return answer(desk, words)


class Desk:
    """A stand of so many places, and a weight for each tie that is there."""

    def __init__(self, many):
        self.stand = Stand(many)
        self.weights = []

    def say(self, text):
        """The answer to a row, a text; NoRow, and nothing is changed, of all that is no row."""
        if not isinstance(text, str):
            raise NoRow("a row is a text")
        try:
            return answer_to(self, text)
        except TooMany:
            return "too many"

    def now(self):
        """The web of all ties that are there, and their weights."""
        return (self.stand.web(), tuple(self.weights))
