"""A stand: what is kept and what breaks while ties come one by one and are taken back."""

from friendfoe.errors import NoTie
from friendfoe.parting import neighbours, sides_from
from friendfoe.ringing import foes_in
from friendfoe.siding import sides_of
from friendfoe.turning import turned
from friendfoe.ways import ties_around, walk_from, way_to


class Stand:
    """So many places, and the ties that have come, each kept or broken."""

    def __init__(self, many):
        self.many = many
        self.ties = []
        self.kept = []
        self.lost = []

    def come(self, one, other, kind):
        """None where the tie is kept, else an odd ring of it and ties kept ahead of it."""
        number = len(self.ties)
        walk = walk_from(one, ties_around(self.web(), self.kept))
        self.ties.append((one, other, kind))
        if other in walk:
            # Kept ties leave two sides: where one ring of this tie and them is odd, each one is.
            places, ties = way_to(other, walk)
            ring = (places, ties + (number,))
            if foes_in(self.web(), ring) % 2 == 1:
                self.lost.append(number)
                return ring
        self.kept.append(number)
        return None

    def back(self):
        """The tie that came last goes."""
        if not self.ties:
            raise NoTie("no tie is there to be taken back")
        self.ties.pop()
        if len(self.ties) in self.kept:
            self.kept.pop()
        else:
            self.lost.pop()

    def turn(self, places):
        """All ties that are there are turned at the places; what is kept and what broke stays so."""
        self.ties = list(turned(self.web(), places)[1])

    def web(self):
        """The web of all ties that are there, kept or broken, in order."""
        return (self.many, tuple(self.ties))

    def kept_web(self):
        """The web of the kept ties alone, in order."""
        return (self.many, tuple([self.ties[number] for number in self.kept]))

    def sides(self):
        """The fixed choice of sides by the kept ties."""
        return sides_of(self.kept_web())

    def between(self, one, other):
        """Whether they stand "together" or "apart"; None where no kept ties lead from one to the other."""
        sides = sides_from(one, neighbours(self.kept_web()))
        if other not in sides:
            return None
        return "together" if sides[other] == 0 else "apart"

    def broken(self):
        """The numbers, rising, of the ties that broke."""
        return tuple(self.lost)
