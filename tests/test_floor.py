"""Promises 13 to 16, with 3 to 5: the floor."""

import unittest

from clonewood.errors import NoFloor, NoPiece, NoPlace, PowerGone, Spoilt
from clonewood.floor import Floor
from helper import GREATEST, NO_NUMBERS, WoodCase

PIECES = [
    0, 1, GREATEST, "", "a", "a b~\n", (), (0,), ((),), ("cells", 1, (0, 999999)),
    ("folder", 1, 0, (("a", "file", 2), ("box", "folder", 599))), ((((((5,),),),),),),
]


class FloorCase(WoodCase):
    def bears(self, floor, place):
        """What a place of a floor bears, by a copy, so that the dark hides nothing."""
        try:
            return floor.copied().read(place)
        except (Spoilt, NoPiece) as refusal:
            return type(refusal).__name__

    def all_of(self, floor):
        return [self.bears(floor, place) for place in range(floor.many)] + [floor.is_dark(), floor.writes(), floor.many]

    def dark_floor(self, many=6):
        """In the dark: place 1 bears a piece, place 2 is spoilt by the power that went, the others bear nothing."""
        floor = Floor(many)
        floor.write(1, "one")
        floor.cut_after(0)
        self.refused(PowerGone, [], floor.write, 2, "two")
        return floor


class Places(FloorCase):
    def test_how_many(self):
        for many in (4, 5, 100, 599, 600):
            floor = Floor(many)
            self.same(floor.many, many)
            self.assertEqual([self.bears(floor, place) for place in range(many)], ["NoPiece"] * many)

    def test_another_number_or_no_number(self):
        for many in [3, 601, 0, -4, 10 ** 9, *NO_NUMBERS]:
            self.refused(NoFloor, [many], Floor, many)

    def test_the_last_place_and_the_one_behind(self):
        for many in (4, 600):
            floor = Floor(many)
            for place in (0, many - 1):
                floor.write(place, ("p", place))
                self.same(floor.read(place), ("p", place))
            self.refused(NoPlace, [many], floor.write, many, 1)
            self.refused(NoPlace, [many], floor.read, many)

    def test_no_places(self):
        floor = Floor(10)
        floor.write(1, "one")
        floor.write(4, "four")
        before = self.all_of(floor)
        for place in [-1, 10, 11, 600, 10 ** 9, *NO_NUMBERS]:
            self.refused(NoPlace, [place], floor.write, place, "x")
            self.refused(NoPlace, [place], floor.read, place)
            self.refused(NoPlace, [place], floor.harm, place)
            self.refused(NoPlace, [place], floor.lose, place)
        self.assertEqual(self.all_of(floor), before)


class Pieces(FloorCase):
    def test_read_as_written(self):
        floor = Floor(len(PIECES))
        for place, piece in enumerate(PIECES):
            self.assertIsNone(floor.write(place, piece))
        for place, piece in enumerate(PIECES):
            self.same(floor.read(place), piece)
            self.same(floor.read(place), piece)

    def test_written_over(self):
        floor = Floor(4)
        for piece in PIECES:
            floor.write(3, piece)
            self.same(floor.read(3), piece)
            self.refused(NoPiece, [2], floor.read, 2)

    def test_written_over_a_spoilt_and_a_lost_one(self):
        floor = Floor(4)
        floor.write(1, "one")
        floor.harm(1)
        floor.write(1, "new")
        self.same(floor.read(1), "new")
        floor.lose(1)
        floor.write(1, "newer")
        self.same(floor.read(1), "newer")

    def test_what_cannot_be_read(self):
        floor = Floor(4)
        floor.write(0, "a")
        floor.harm(0)
        for again in range(2):
            self.refused(Spoilt, [0], floor.read, 0)
            self.refused(NoPiece, [3], floor.read, 3)


class Power(FloorCase):
    def test_there_is_power_at_first(self):
        floor = Floor(4)
        self.assertIs(floor.is_dark(), False)
        for again in range(1200):
            floor.write(again % 4, again)
        self.assertIs(floor.is_dark(), False)

    def test_cut_after_some_writes(self):
        for many in (0, 1, 2, 5, 1000):
            floor = Floor(8)
            floor.write(7, "old")
            self.assertIsNone(floor.cut_after(many))
            for at in range(many):
                self.assertIs(floor.is_dark(), False)
                floor.write(at % 6, at)
                self.same(floor.read(at % 6), at)
            self.assertIs(floor.is_dark(), False)
            self.same(floor.read(7), "old")
            self.refused(PowerGone, [], floor.write, 7, "new")
            self.assertIs(floor.is_dark(), True)
            self.assertEqual(self.bears(floor, 7), "Spoilt")
            self.assertEqual(floor.writes(), [7] + [at % 6 for at in range(many)])

    def test_the_place_of_the_last_write_is_spoilt_whatever_it_bore(self):
        for before in ("nothing", "a piece", "spoilt"):
            floor = Floor(4)
            if before != "nothing":
                floor.write(2, "piece")
            if before == "spoilt":
                floor.harm(2)
            floor.cut_after(0)
            self.refused(PowerGone, [], floor.write, 2, "new")
            self.assertEqual(self.bears(floor, 2), "Spoilt")

    def test_in_the_dark_nothing_is_written_or_read(self):
        floor = self.dark_floor()
        before = self.all_of(floor)
        for place in range(6):
            self.refused(PowerGone, [], floor.write, place, "x")
            self.refused(PowerGone, [], floor.read, place)
        self.assertEqual(self.all_of(floor), before)

    def test_a_refused_place_takes_no_write(self):
        floor = Floor(4)
        floor.cut_after(1)
        self.refused(NoPlace, [4], floor.write, 4, "x")
        self.refused(NoPlace, [None], floor.write, None, "x")
        floor.write(0, "x")
        self.refused(NoPlace, [4], floor.write, 4, "x")
        self.assertIs(floor.is_dark(), False)
        self.refused(PowerGone, [], floor.write, 0, "y")

    def test_a_newer_cut_takes_the_place_of_an_older_one(self):
        for older, newer in ((0, 3), (3, 0), (5, 2), (2, 2)):
            floor = Floor(4)
            floor.cut_after(older)
            if older:
                floor.write(0, "first")
            floor.cut_after(newer)
            for again in range(newer):
                floor.write(1, again)
            self.refused(PowerGone, [], floor.write, 2, "x")

    def test_a_cut_told_in_the_dark_changes_nothing(self):
        floor = self.dark_floor()
        floor.cut_after(3)
        self.assertIs(floor.is_dark(), True)
        self.refused(PowerGone, [], floor.write, 3, "x")
        floor.power_on()
        for again in range(10):
            floor.write(3, again)
        self.assertIs(floor.is_dark(), False)

    def test_power_put_on(self):
        floor = self.dark_floor()
        self.assertIsNone(floor.power_on())
        self.assertIs(floor.is_dark(), False)
        self.same(floor.read(1), "one")
        self.refused(Spoilt, [2], floor.read, 2)
        self.assertEqual(floor.writes(), [1])
        for again in range(1100):
            floor.write(2, again)
        self.same(floor.read(2), 1099)

    def test_power_put_on_ahead_of_the_dark(self):
        floor = Floor(4)
        floor.cut_after(1)
        floor.power_on()
        for again in range(5):
            floor.write(2, again)
        self.assertIs(floor.is_dark(), False)

    def test_writes_oldest_first_each_as_often_as_written(self):
        floor = Floor(6)
        self.assertEqual(floor.writes(), [])
        for place in (3, 1, 3, 3, 5, 0):
            floor.write(place, place)
        floor.harm(3)
        floor.lose(1)
        floor.read(5)
        self.same(floor.writes(), [3, 1, 3, 3, 5, 0])
        self.told_anew(floor.writes)


class Harm(FloorCase):
    def test_harmed(self):
        floor = Floor(4)
        floor.write(1, "one")
        floor.write(2, "two")
        for again in range(2):
            self.assertIsNone(floor.harm(1))
            self.refused(Spoilt, [1], floor.read, 1)
        self.same(floor.read(2), "two")

    def test_nothing_is_not_harmed(self):
        floor = Floor(4)
        floor.write(1, "one")
        floor.lose(1)
        for place in (0, 1):
            self.refused(NoPiece, [place], floor.harm, place)
            self.refused(NoPiece, [place], floor.read, place)

    def test_lost(self):
        floor = Floor(4)
        floor.write(1, "one")
        floor.write(2, "two")
        floor.harm(2)
        for place in (0, 1, 2):
            self.assertIsNone(floor.lose(place))
            self.refused(NoPiece, [place], floor.read, place)
        self.refused(NoPiece, [2], floor.harm, 2)

    def test_both_in_the_dark(self):
        floor = self.dark_floor()
        self.refused(NoPiece, [3], floor.harm, 3)
        self.refused(NoPlace, [6], floor.harm, 6)
        self.refused(NoPlace, [6], floor.lose, 6)
        floor.harm(1)
        floor.harm(2)
        self.assertEqual([self.bears(floor, place) for place in (1, 2)], ["Spoilt", "Spoilt"])
        floor.lose(2)
        self.assertIs(floor.is_dark(), True)
        floor.power_on()
        self.refused(Spoilt, [1], floor.read, 1)
        self.refused(NoPiece, [2], floor.read, 2)
        self.assertEqual(floor.writes(), [1])

    def test_they_are_no_writes(self):
        floor = Floor(4)
        floor.write(0, "a")
        floor.cut_after(1)
        for again in range(3):
            floor.harm(0)
        floor.lose(0)
        floor.write(0, "b")
        self.assertEqual(floor.writes(), [0, 0])


class Copies(FloorCase):
    def test_a_copy_bears_the_same(self):
        floor = Floor(8)
        floor.write(0, ("a", 1))
        floor.write(1, "b")
        floor.harm(1)
        floor.write(2, "c")
        floor.lose(2)
        copy = floor.copied()
        self.assertIs(type(copy), Floor)
        self.same(copy.many, 8)
        self.same(copy.read(0), ("a", 1))
        self.refused(Spoilt, [1], copy.read, 1)
        for place in range(2, 8):
            self.refused(NoPiece, [place], copy.read, place)
        self.assertEqual(copy.writes(), [])
        self.assertEqual(floor.writes(), [0, 1, 2])

    def test_a_copy_has_power_without_end(self):
        cut = Floor(6)
        cut.cut_after(1)
        for floor in (cut, self.dark_floor()):
            copy = floor.copied()
            self.assertIs(copy.is_dark(), False)
            for again in range(5):
                copy.write(0, again)
        self.refused(PowerGone, [], self.dark_floor().read, 1)
        cut.write(0, "x")
        self.refused(PowerGone, [], cut.write, 0, "y")

    def test_each_is_changed_by_itself(self):
        floor = Floor(6)
        for place in range(4):
            floor.write(place, place)
        floor.harm(3)
        copy = floor.copied()
        kept = self.all_of(copy)
        floor.write(0, "new")
        floor.harm(1)
        floor.lose(2)
        floor.write(3, "good")
        floor.cut_after(0)
        self.refused(PowerGone, [], floor.write, 4, "x")
        self.assertEqual(self.all_of(copy), kept)
        kept = self.all_of(floor)
        copy.write(0, "other")
        copy.lose(1)
        copy.harm(2)
        copy.lose(3)
        copy.write(4, "y")
        self.assertEqual(self.all_of(floor), kept)


class Order(FloorCase):
    def test_no_place_ahead_of_the_dark(self):
        floor = self.dark_floor()
        for place in [-1, 6, *NO_NUMBERS]:
            self.refused(NoPlace, [place], floor.write, place, "x")
            self.refused(NoPlace, [place], floor.read, place)

    def test_the_dark_ahead_of_spoilt_and_no_piece(self):
        floor = self.dark_floor()
        self.assertEqual([self.bears(floor, place) for place in (2, 3)], ["Spoilt", "NoPiece"])
        self.refused(PowerGone, [], floor.read, 2)
        self.refused(PowerGone, [], floor.read, 3)

    def test_no_place_ahead_of_the_write_at_which_the_power_goes(self):
        floor = Floor(4)
        floor.cut_after(0)
        self.refused(NoPlace, [9], floor.write, 9, "x")
        self.assertIs(floor.is_dark(), False)


if __name__ == "__main__":
    unittest.main()
