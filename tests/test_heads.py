"""Promises 60 and 61, with 3 and 5: heads and tops."""

import unittest

from clonewood.errors import PowerGone
from clonewood.floor import Floor
from clonewood.heads import Head, is_top, tops_of
from helper import GREATEST, NO_NUMBERS, WoodCase

LINES = ((1, 0, ""), (4, 3, "old"), (6, 3, ""))
HEADS = (("a", 1, 0, 2, "", 0), ("new", 4, 0, 599, "", 0), ("old", 1, 3, 2, "wood", 3), ("z9", 6, 7, 30, "other", 1))
NO_WORDS = [thing for thing in NO_NUMBERS if thing not in ("", "4", "a")] + ["A", "a/b", "abcdefghi", "a ", 7]


def top(stamp=8, word="wood", lines=LINES, heads=HEADS):
    return ("top", stamp, word, lines, heads)


def changed(row, at, thing):
    return row[:at] + (thing,) + row[at + 1:]


def growths(many):
    return tuple((name, 1, 0, 2, "", 0) for name in sorted(f"g{at}" for at in range(many)))


class Tops(WoodCase):
    def yes(self, thing, place=0):
        with self.subTest(repr((thing, place))):
            self.assertIs(is_top(thing, place), True)
            self.assertIs(is_top(thing, 1 - place), False)

    def no(self, thing):
        with self.subTest(repr(thing)):
            self.assertIs(is_top(thing, 0), False)
            self.assertIs(is_top(thing, 1), False)

    def test_well_formed(self):
        self.yes(top())
        self.yes(top(stamp=9), 1)
        self.yes(top(lines=(), heads=()))
        self.yes(top(heads=()))
        self.yes(top(lines=((1, 0, ""),), heads=(("a", 1, 0, 2, "", 0),)))

    def test_stamps_and_places(self):
        for stamp in (1, 3, GREATEST):
            self.yes(top(stamp=stamp), 1)
        for stamp in (2, 4, GREATEST - 1):
            self.yes(top(stamp=stamp), 0)
        for stamp in [0, -1, -2, GREATEST + 1, GREATEST + 2, *NO_NUMBERS]:
            self.no(top(stamp=stamp))

    def test_word(self):
        for word in ("a", "0", "abcdefgh"):
            self.yes(top(word=word))
        for word in ["", *NO_WORDS]:
            self.no(top(word=word))

    def test_forms(self):
        for thing in [0, 8, "top", ("top",), (), [], None, True, list(top()), top()[:-1], top() + (0,), top() + ((),),
                      ("Top",) + top()[1:], ("",) + top()[1:], (None,) + top()[1:], (["top"],) + top()[1:], *NO_NUMBERS]:
            self.no(thing)
        for thing in [list(LINES), [], (list(LINES[0]),), ((1, 0),), ((1, 0, "", 0),), (1, 0, ""), *NO_NUMBERS]:
            if thing != ():
                self.no(top(lines=thing))
        for thing in [list(HEADS), [], (list(HEADS[0]),), (HEADS[0][:-1],), (HEADS[0] + (0,),), HEADS[0], *NO_NUMBERS]:
            if thing != ():
                self.no(top(heads=thing))

    def test_numbers_of_lines(self):
        for at in (0, 1):
            for number in (0, 1, GREATEST):
                self.yes(top(lines=(changed((5, 5, "a"), at, number),), heads=()))
            for number in [-1, GREATEST + 1, *NO_NUMBERS]:
                self.no(top(lines=(changed((5, 5, "a"), at, number),), heads=()))

    def test_base_and_origin_each_by_itself(self):
        for line in ((5, 0, ""), (5, 3, ""), (5, 0, "a"), (5, 3, "abcdefgh")):
            self.yes(top(lines=(line,), heads=()))
        for origin in NO_WORDS:
            self.no(top(lines=((5, 3, origin),), heads=()))

    def test_lines_rise(self):
        self.yes(top(lines=((1, 0, ""), (2, 0, ""), (3, 0, "")), heads=()))
        for numbers in ((2, 1), (1, 1), (1, 3, 2), (1, 2, 2, 3)):
            self.no(top(lines=tuple((number, 0, "") for number in numbers), heads=()))

    def test_names_rise(self):
        for names in (("b", "a"), ("a", "a"), ("a", "c", "b"), ("b", "9"), ("a", "b", "b")):
            self.no(top(heads=tuple((name, 1, 0, 2, "", 0) for name in names)))
        for name in ["", *NO_WORDS]:
            self.no(top(heads=((name, 1, 0, 2, "", 0),)))

    def test_how_many_heads(self):
        self.yes(top(heads=growths(12)))
        self.no(top(heads=growths(13)))

    def test_each_line_is_among_the_lines(self):
        for line in (4, 6):
            self.yes(top(heads=(("a", line, 0, 2, "", 0),)))
        for line in [0, 2, 3, 5, 7, -1, GREATEST + 1, *NO_NUMBERS]:
            self.no(top(heads=(("a", line, 0, 2, "", 0),)))
        self.no(top(lines=(), heads=(("a", 1, 0, 2, "", 0),)))
        self.no(top(lines=((1, 0, ""), (4, 0, "")), heads=(("a", True, 0, 2, "", 0),)))

    def test_roots(self):
        for root in (2, 599):
            self.yes(top(heads=(("a", 1, 0, root, "", 0), ("b", 1, 5, root, "w", 5))))
        for root in [1, 0, -1, 600, *NO_NUMBERS]:
            self.no(top(heads=(("a", 1, 0, root, "", 0),)))
            self.no(top(heads=(("a", 1, 5, root, "w", 5),)))

    def test_makes(self):
        for stamp in (1, 2, GREATEST):
            for mark in (1, GREATEST):
                self.yes(top(heads=(("a", 1, stamp, 2, "abcdefgh", mark),)))
        for stamp in [-1, GREATEST + 1, *NO_NUMBERS]:
            self.no(top(heads=(("a", 1, stamp, 2, "w", 5),)))
        for word in ["", *NO_WORDS]:
            self.no(top(heads=(("a", 1, 5, 2, word, 5),)))
        for mark in [0, -1, GREATEST + 1, *NO_NUMBERS]:
            self.no(top(heads=(("a", 1, 5, 2, "w", mark),)))

    def test_growths(self):
        self.yes(top(heads=(("a", 1, 0, 2, "", 0),)))
        for word in ["a", "w", *NO_WORDS]:
            self.no(top(heads=(("a", 1, 0, 2, word, 0),)))
        for mark in [1, 5, -1, GREATEST + 1, *NO_NUMBERS]:
            self.no(top(heads=(("a", 1, 0, 2, "", mark),)))
        self.no(top(heads=(("a", 1, False, 2, "", 0),)))

    def test_the_stamp_and_the_mark_of_the_other(self):
        self.no(top(heads=(("a", 1, 0, 2, "w", 5),)))
        self.no(top(heads=(("a", 1, 5, 2, "", 0),)))
        self.no(top(heads=(("a", 1, 5, 2, "", 5),)))
        self.no(top(heads=(("a", 1, 5, 2, "w", 0),)))

    def test_each_head_counts(self):
        for at in range(4):
            self.no(top(heads=changed(HEADS, at, changed(HEADS[at], 3, 600))))


class TopsOfAFloor(WoodCase):
    def floor(self, zero=None, one=None):
        floor = Floor(6)
        for place, stuff in ((0, zero), (1, one), (2, top(stamp=50)), (3, top(stamp=51))):
            if stuff is not None:
                floor.write(place, stuff)
        return floor

    def test_none(self):
        self.same(tops_of(Floor(4)), [])
        self.same(tops_of(self.floor()), [])
        self.told_anew(lambda: tops_of(self.floor()))

    def test_one(self):
        self.same(tops_of(self.floor(zero=top(stamp=8))), [top(stamp=8)])
        self.same(tops_of(self.floor(one=top(stamp=7))), [top(stamp=7)])

    def test_two_the_greater_stamp_first(self):
        for zero, one in ((8, 7), (8, 9), (2, 4294967295), (4294967294, 1)):
            floor = self.floor(top(stamp=zero), top(stamp=one))
            self.same(tops_of(floor), [top(stamp=stamp) for stamp in sorted((zero, one), reverse=True)])
        self.told_anew(lambda: tops_of(floor))
        self.assertEqual(floor.writes(), [0, 1, 2, 3])

    def test_a_spoilt_one(self):
        for place, left in ((0, 7), (1, 8)):
            floor = self.floor(top(stamp=8), top(stamp=7))
            floor.harm(place)
            self.same(tops_of(floor), [top(stamp=left)])
            floor.lose(place)
            self.same(tops_of(floor), [top(stamp=left)])
            floor.harm(1 - place)
            self.same(tops_of(floor), [])

    def test_one_at_the_wrong_place(self):
        self.same(tops_of(self.floor(top(stamp=7), top(stamp=7))), [top(stamp=7)])
        self.same(tops_of(self.floor(top(stamp=8), top(stamp=8))), [top(stamp=8)])
        self.same(tops_of(self.floor(top(stamp=9), top(stamp=8))), [])

    def test_what_is_no_top(self):
        for stuff in (5, "top", (), ("cells", 1, (5,)), top(word="")):
            self.same(tops_of(self.floor(stuff, top(stamp=7))), [top(stamp=7)])
            self.same(tops_of(self.floor(top(stamp=8), stuff)), [top(stamp=8)])
            self.same(tops_of(self.floor(stuff, stuff)), [])

    def test_the_dark(self):
        for floor in (self.floor(), self.floor(top(stamp=8), top(stamp=7))):
            floor.cut_after(0)
            self.same(len(tops_of(floor)), len(floor.writes()) - 2)
            self.refused(PowerGone, [], floor.write, 4, "x")
            self.refused(PowerGone, [], tops_of, floor)


class Heads(WoodCase):
    def test_fields(self):
        head = Head("old", 1, 3, 2, "wood", 4)
        self.same([head.name, head.line, head.stamp, head.root, head.word, head.mark], ["old", 1, 3, 2, "wood", 4])
        head = Head(name="a", line=5, stamp=0, root=6, word="", mark=0)
        self.same([head.name, head.line, head.stamp, head.root, head.word, head.mark], ["a", 5, 0, 6, "", 0])

    def test_kinds(self):
        self.same(Head("a", 1, 0, 2, "", 0).kind(), "growth")
        for stamp in (1, 2, GREATEST):
            self.same(Head("a", 1, stamp, 2, "w", 1).kind(), "make")


if __name__ == "__main__":
    unittest.main()
