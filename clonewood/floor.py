"""The floor: places that bear pieces, and the power by which pieces are written and read."""

from clonewood.errors import NoFloor, NoPiece, NoPlace, PowerGone, Spoilt
from clonewood.words import is_within

FEWEST_PLACES = 4
MOST_PLACES = 600


class Floor:
    def __init__(self, many):
        if not is_within(many, FEWEST_PLACES, MOST_PLACES):
            raise NoFloor(many)
        self.many = many
        # A place stands in one of these two at most; one that stands in neither bears nothing.
        self.pieces = {}
        self.spoilt = {}
        self.written = []
        self.dark = False
        # How many writes are still done well: None is power without end.
        self.left = None

    def write(self, place, stuff):
        self.need_place(place)
        self.need_power()
        if self.left == 0:
            self.spoil(place)
            self.dark = True
            raise PowerGone()
        if self.left is not None:
            self.left = self.left - 1
        self.clean(place)
        self.pieces[place] = stuff
        self.written.append(place)

    def read(self, place):
        self.need_place(place)
        self.need_power()
        if place in self.spoilt:
            raise Spoilt(place)
        if place not in self.pieces:
            raise NoPiece(place)
        return self.pieces[place]

    def cut_after(self, many):
        if not self.dark:
            self.left = many

    def power_on(self):
        self.dark = False
        self.left = None

    def is_dark(self):
        return self.dark

    def writes(self):
        return list(self.written)

    def harm(self, place):
        self.need_place(place)
        if place not in self.pieces and place not in self.spoilt:
            raise NoPiece(place)
        self.spoil(place)

    def lose(self, place):
        self.need_place(place)
        self.clean(place)

    def copied(self):
        other = Floor(self.many)
        other.pieces = dict(self.pieces)
        other.spoilt = dict(self.spoilt)
        return other

    def need_place(self, place):
        if not is_within(place, 0, self.many - 1):
            raise NoPlace(place)

    def need_power(self):
        if self.dark:
            raise PowerGone()

    def spoil(self, place):
        self.clean(place)
        self.spoilt[place] = True

    def clean(self, place):
        self.pieces.pop(place, None)
        self.spoilt.pop(place, None)
