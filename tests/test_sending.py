"""Promises 82 to 86, with 3 to 5, 7 and 12: the rows by which a make is sent, and rows put in at a growth."""

import random
import unittest

from clonewood.changes import changes
from clonewood.errors import (
    BadRow, Down, NoBase, NoHead, NoRoom, NotGrowth, NotMake, NoWord, OldHead, Over, PowerGone, TooMany,
)
from clonewood.floor import Floor
from clonewood.planting import come_up, planted
from clonewood.sending import put_in, sent
from helper import GREATEST, NO_NUMBERS, WoodCase, read_head
from model import Paths, Refused, Requests

NOTHING = ("", 0)
MARK = ("far", 7)
NO_MARKS = [
    ("", 1), ("far", 0), ("far", -1), ("far", GREATEST + 1), ("FAR", 7), ("", 7), ("far",), ("far", 7, 7), ["far", 7], ("far", "7"),
    ("far", True), (7, "far"), "far", 7, None, (), ("", False), ("", -1), ("abcdefghi", 7), ("far", None),
]


def row_of(stuff):
    """The row of numbers of stuff, by the words of promise 12."""
    if isinstance(stuff, int):
        return [stuff]
    if isinstance(stuff, str):
        return [len(stuff), *[ord(sign) for sign in stuff]]
    return [len(stuff), *[number for part in stuff for number in row_of(part)]]


def check_due(stuff):
    check = 0
    for number in row_of(stuff):
        # Cut once more for numbers below 0, which no check is told for, but which must not slip in.
        check = ((check << 5 | check >> 27) ^ number) & GREATEST
    return check


def numbered(*stuffs):
    return [(at, stuff, check_due((at, stuff))) for at, stuff in enumerate(stuffs)]


def rows_of(first, second, *changes_told):
    """Rows as they would be sent, of marks and changes."""
    return numbered(("begin", first, second), *changes_told, ("end", len(changes_told) + 2))


def other_signs(text):
    for at, sign in enumerate(text):
        for other in {"a", "9", "/", "A", chr(ord(sign) ^ 1)} - {sign}:
            yield text[:at] + other + text[at + 1:]


def changed_once(thing):
    """All forms of a thing in which one number, or one sign of a text, is another one."""
    if isinstance(thing, tuple):
        for at, part in enumerate(thing):
            for other in changed_once(part):
                yield thing[:at] + (other,) + thing[at + 1:]
    elif isinstance(thing, str):
        yield from other_signs(thing)
    else:
        yield from {thing + 1, max(thing - 1, 0), thing ^ 16, 0, GREATEST} - {thing}


def far_wood(births=False):
    """A wood with the makes one, two and three of a, and b, which is sprouted."""
    wood = planted(Floor(120), "far", "a", births)
    wood.put("a", "f", 0, list(range(1, 20)))
    wood.folder("a", "d")
    wood.put("a", "d/g", 2, [5, 0, 6])
    wood.make("a", "one")
    wood.put("a", "f", 3, [77, 0, 0])
    wood.trim("a", "f", 12)
    wood.drop("a", "d")
    wood.put("a", "d", 0, [1])
    wood.folder("a", "e")
    wood.twin("a", "f", "e/f")
    wood.make("a", "two")
    wood.drop("a", "d")
    wood.move("a", "e", "d")
    wood.put("a", "d/f", 30, [9])
    wood.make("a", "three")
    wood.sprout("b")
    return wood


class Sending(WoodCase):
    def setUp(self):
        self.wood = far_wood()

    def test_rows(self):
        wood = self.wood
        for first in (None, "one", "two", "three"):
            for second in ("one", "two", "three"):
                rows = sent(wood, first, second)
                told = changes(wood.knot_at, None if first is None else wood.root_of(first), wood.root_of(second))
                begin = NOTHING if first is None else wood.mark_of(first)
                self.same(rows, rows_of(begin, wood.mark_of(second), *told))
                self.told_anew(lambda: sent(wood, first, second))

    def test_rows_by_hand(self):
        wood = planted(Floor(30), "w", "a")
        wood.make("a", "0")
        wood.put("a", "f", 1, [5])
        wood.make("a", "m")
        self.same(sent(wood, None, "0"), rows_of(NOTHING, ("w", 2)))
        self.same(sent(wood, "0", "m"), rows_of(("w", 2), ("w", 4), ("file", "f", 2), ("cells", "f", 1, (5,))))
        self.same(sent(wood, "m", "0"), rows_of(("w", 4), ("w", 2), ("gone", "f")))
        self.same(sent(wood, "m", "m"), [
            (0, ("begin", ("w", 4), ("w", 4)), check_due((0, ("begin", ("w", 4), ("w", 4))))),
            (1, ("end", 2), check_due((1, ("end", 2)))),
        ])

    def test_the_mark_that_was_given(self):
        wood = planted(Floor(30), "w", "a")
        wood.take_in("a", wood.begin("a"), "m", "other", GREATEST)
        wood.take_in("a", wood.begin("a"), "n", "other", 1)
        self.same(sent(wood, "m", "n"), rows_of(("other", GREATEST), ("other", 1)))

    def test_refusals(self):
        wood = self.wood
        for name in ("", "x", "One", "a ", "."):
            for second in ("x", "a", "one", "y"):
                self.kept(wood, NoHead, [name], sent, wood, name, second)
            self.kept(wood, NoHead, [name], sent, wood, "one", name)
            self.kept(wood, NoHead, [name], sent, wood, None, name)
        for second in ("x", "a", "one"):
            self.kept(wood, NotMake, ["b"], sent, wood, "b", second)
        self.kept(wood, NotMake, ["b"], sent, wood, "one", "b")
        self.kept(wood, NotMake, ["a"], sent, wood, None, "a")
        wood.floor.cut_after(0)
        self.refused(PowerGone, [], wood.go, "b")
        for first, second in ((None, "one"), ("one", "two"), ("x", "y"), ("a", "b"), (None, None)):
            self.refused(Down, [], sent, wood, first, second)


class PuttingIn(WoodCase):
    births = False

    def setUp(self):
        self.far = far_wood()
        self.wood = planted(Floor(120), "near", "a", self.births)

    def refuse(self, error, fields, *handed):
        self.kept(self.wood, error, fields, put_in, self.wood, *handed)

    def put(self, growth, rows, name):
        kept = list(rows)
        told = put_in(self.wood, growth, rows, name)
        self.assertEqual(rows, kept)
        self.same(read_head(self.wood, name), read_head(self.wood, growth))
        self.same(self.wood.root_of(name), self.wood.root_of(growth))
        self.same(self.wood.mark_of(name), rows[0][1][2])
        self.same(self.wood.stands_on(growth), name)
        self.same([type(told), type(told[0]), type(told[1])], [tuple, list, list])
        self.same(told[1], self.wood.resting())
        return told

    def test_from_nothing_and_on(self):
        stamp = self.wood.stamp
        for at, (first, second) in enumerate(((None, "one"), ("one", "two"), ("two", "three"), ("three", "one"))):
            self.put("a", sent(self.far, first, second), f"m{at}")
            self.same(read_head(self.wood, "a"), read_head(self.far, second))
            self.same(self.wood.stamp, stamp + at + 1)
            self.same(self.wood.mark_of(f"m{at}"), self.far.mark_of(second))
        self.same(read_head(self.wood, "m1"), read_head(self.far, "two"))
        found = come_up(self.wood.floor, self.births)
        self.same([read_head(found, name) for name in ("m0", "m1", "m2", "m3")],
                  [read_head(self.far, name) for name in ("one", "two", "three", "one")])

    def test_a_make_to_itself(self):
        self.put("a", sent(self.far, None, "one"), "m")
        told = self.put("a", sent(self.far, "one", "one"), "n")
        self.same(told, ([], []))
        self.same(self.wood.root_of("m"), self.wood.root_of("n"))

    def test_in_the_wood_itself(self):
        """The make itself is what the rows lead from, too."""
        self.wood = self.far
        self.wood.clone("one", "c")
        self.put("c", sent(self.wood, "one", "two"), "new")
        self.same(read_head(self.wood, "c"), read_head(self.wood, "two"))
        self.same(self.wood.mark_of("new"), self.wood.mark_of("two"))
        self.put("b", sent(self.wood, None, "three"), "new2")
        self.same(read_head(self.wood, "b"), read_head(self.wood, "three"))
        self.put("c", sent(self.wood, "two", "three"), "new3")
        self.same(read_head(self.wood, "c"), read_head(self.wood, "three"))

    def test_what_is_written(self):
        rows = rows_of(NOTHING, MARK, ("folder", "d"), ("file", "d/f", 40), ("cells", "d/f", 5, (1,) * 9), ("file", "g", 3))
        written, freed = self.put("a", rows, "m")
        self.same([len(written), len(freed)], [6, 1])
        self.same(read_head(self.wood, "m"), {"": None, "d": None, "d/f": [0] * 5 + [1] * 9 + [0] * 26, "g": [0] * 3})
        self.same(self.wood.floor.writes()[-7:], written + [0])

    def test_each_change(self):
        self.put("a", rows_of(NOTHING, MARK, ("file", "f", 3), ("cells", "f", 0, (1, 2, 3)), ("folder", "d"),
                              ("folder", "d/e"), ("file", "d/e/g", 0)), "m0")
        for at, (change, path, due) in enumerate((
            (("gone", "d"), "d", None), (("size", "f", 2), "f", [1, 2]), (("size", "f", 4), "f", [1, 2, 0, 0]),
            (("size", "f", 4), "f", [1, 2, 0, 0]), (("cells", "f", 3, (9,)), "f", [1, 2, 0, 9]),
            (("cells", "f", 0, (0, 0, 0, 0)), "f", [0] * 4), (("size", "f", 40), "f", [0] * 40),
            (("cells", "f", 39, (999999,)), "f", [0] * 39 + [999999]), (("cells", "f", 0, (8,) * 40), "f", [8] * 40),
            (("file", "h", 40), "h", [0] * 40), (("file", "i", 0), "i", []), (("size", "f", 0), "f", []),
        )):
            self.put("a", rows_of(MARK, MARK, change), f"m{at % 4 + 1}")
            reading = read_head(self.wood, "a")
            self.same(reading.get(path), due)
            if at >= 3:
                self.wood.go(f"m{(at + 1) % 4 + 1}")

    def test_a_growth_that_stands_otherwise(self):
        rows = sent(self.far, "one", "two")
        self.refuse(NoBase, ["far", 5], "a", rows, "m")
        self.put("a", sent(self.far, None, "one"), "one")
        # As it reads, but not at the make's place.
        self.wood.folder("a", "x")
        self.refuse(NoBase, ["far", 5], "a", rows, "m")
        self.wood.drop("a", "x")
        self.refuse(NoBase, ["far", 5], "a", rows, "m")
        self.wood.clone("one", "c")
        self.put("c", rows, "m")
        # On a make with another mark, though it reads as that one does.
        self.wood.clone("one", "d")
        self.wood.make("d", "one2")
        self.refuse(NoBase, ["far", 5], "d", rows, "n")
        self.wood.sprout("s")
        self.refuse(NoBase, ["far", 5], "s", rows, "n")

    def test_nothing_as_the_base(self):
        rows = sent(self.far, None, "one")
        self.wood.folder("a", "x")
        self.refuse(NoBase, ["", 0], "a", rows, "m")
        self.wood.drop("a", "x")
        self.put("a", rows, "m")
        self.refuse(NoBase, ["", 0], "a", rows, "n")
        # Empty, but on a make.
        self.wood.sprout("s")
        self.wood.make("s", "none")
        self.refuse(NoBase, ["", 0], "s", rows, "n")
        self.wood.go("none")
        self.put("s", rows, "n")
        self.wood.clone("m", "c")
        for path in self.wood.names_at("c", ""):
            self.wood.drop("c", path)
        self.refuse(NoBase, ["", 0], "c", rows, "o")

    def test_the_word_and_the_number_of_the_base(self):
        self.put("a", rows_of(NOTHING, MARK), "m")
        for mark in (("far", 8), ("far", 6), ("fa", 7), ("near", 7), ("far0", 7), ("near", 2), ("far", GREATEST)):
            self.refuse(NoBase, list(mark), "a", rows_of(mark, MARK), "n")
        self.put("a", rows_of(MARK, ("x", 1)), "n")

    def test_refusals_ahead_of_rows(self):
        rows = sent(self.far, None, "one")
        self.wood.make("a", "m")
        for bad in (rows, rows[1:], [], None):
            for growth in ("", "x", "A"):
                self.refuse(NoHead, [growth], growth, bad, "A")
            self.refuse(NotGrowth, ["m"], "m", bad, "A")
            for name in ("", "A", "a b", "abcdefghi", ".", None, 5):
                self.refuse(NoWord, [name], "a", bad, name)
            for name in ("a", "m"):
                self.refuse(OldHead, [name], "a", bad, name)
        for at in range(10):
            self.wood.make("a", f"m{at}")
        self.refuse(TooMany, [12], "a", None, "new")
        self.refuse(OldHead, ["m"], "a", None, "m")

    def test_rows_come_ahead_of_the_base(self):
        rows = sent(self.far, "one", "two")
        self.refuse(BadRow, [len(rows) - 1], "a", rows[:-1], "m")
        self.refuse(NoBase, ["far", 5], "a", rows_of(("far", 5), MARK, ("gone", "x")), "m")

    def test_down(self):
        rows = sent(self.far, None, "one")
        self.wood.floor.cut_after(0)
        self.refused(PowerGone, [], self.wood.sprout, "s")
        for growth, handed, name in (("a", rows, "m"), ("x", None, ""), ("a", [], "a")):
            self.refused(Down, [], put_in, self.wood, growth, handed, name)

    def test_over_and_no_room(self):
        # The top folder, d, two files, three pieces of f and two of d/g.
        rows = sent(self.far, None, "one")
        self.wood.set_limit("a", "", 9)
        self.put("a", rows, "m")
        self.same(len(self.wood.lying()), 9)
        self.wood = planted(Floor(120), "near", "a", self.births)
        self.wood.set_limit("a", "", 8)
        self.refuse(Over, ["", 9], "a", rows, "m")
        self.wood = planted(Floor(11), "near", "a", self.births)
        self.refuse(NoRoom, [9, 8], "a", rows, "m")
        self.wood.set_limit("a", "", 8)
        self.refuse(Over, ["", 9], "a", rows, "m")
        self.wood = planted(Floor(12), "near", "a", self.births)
        self.put("a", rows, "m")
        self.same(len(self.wood.spare()), 0)

    def test_the_power_goes(self):
        rows = sent(self.far, None, "one")
        many = len(put_in(planted(Floor(40), "near", "a", self.births), "a", rows, "m")[0])
        for cut in range(many + 1):
            wood = planted(Floor(40), "near", "a", self.births)
            wood.floor.cut_after(cut)
            self.refused(PowerGone, [], put_in, wood, "a", rows, "m")
            self.all_down(wood)
            wood.floor.power_on()
            found = come_up(wood.floor, self.births)
            self.same([found.stamp, found.heads(), read_head(found, "a")], [1, [("a", "growth", 2)], {"": None}])
            put_in(found, "a", rows, "m")
            self.same(read_head(found, "m"), read_head(self.far, "one"))


class BadRows(WoodCase):
    def setUp(self):
        self.far = far_wood()
        self.wood = planted(Floor(120), "near", "a")
        put_in(self.wood, "a", sent(self.far, None, "one"), "one")

    def bad(self, at, rows):
        self.refused(BadRow, [at], put_in, self.wood, "a", rows, "m")

    def each(self):
        """The wood is as it was behind all that was refused."""
        before = [self.wood.heads(), self.wood.lying(), self.wood.stamp, self.wood.floor.writes()]
        yield from (sent(self.far, "one", second) for second in ("one", "two", "three"))
        self.assertEqual([self.wood.heads(), self.wood.lying(), self.wood.stamp, self.wood.floor.writes()], before)

    def test_left_out(self):
        for rows in self.each():
            for at in range(len(rows)):
                self.bad(at, rows[:at] + rows[at + 1:])

    def test_cut_off(self):
        for rows in self.each():
            for many in range(len(rows)):
                self.bad(many, rows[:many])

    def test_doubled(self):
        for rows in self.each():
            for at in range(len(rows)):
                self.bad(at + 1, rows[:at] + [rows[at]] + rows[at:])
            self.bad(len(rows), rows + rows)
            self.bad(len(rows), rows + [rows[0]])

    def test_exchanged(self):
        for rows in self.each():
            for low in range(len(rows)):
                for high in range(low + 1, len(rows)):
                    other = list(rows)
                    other[low], other[high] = other[high], other[low]
                    self.bad(low, other)

    def test_changed_in_one_number_or_sign(self):
        for rows in self.each():
            for at, row in enumerate(rows):
                for other in changed_once(row):
                    with self.assertRaises(BadRow, msg=other) as taken:
                        put_in(self.wood, "a", rows[:at] + [other] + rows[at + 1:], "m")
                    self.assertEqual(taken.exception.at, at, other)

    def test_no_list(self):
        rows = sent(self.far, "one", "two")
        for handed in (tuple(rows), None, 0, "", {}, dict(enumerate(rows)), True):
            self.bad(0, handed)

    def test_no_rows(self):
        rows = sent(self.far, "one", "two")
        for at, (number, stuff, check) in enumerate(rows):
            for other in [*NO_NUMBERS, [number, stuff, check], (number, stuff), (number, stuff, check, 0), stuff,
                          (None, stuff, check), (number, None, check), (number, stuff, None), (number, list(stuff), check),
                          (str(number), stuff, check), (number, stuff, str(check)), (number, stuff, -check), (number, stuff, float(check)),
                          (float(number), stuff, check),
                          (number, stuff, check + GREATEST + 1), (-number - 1, stuff, check), (number, (), check)]:
                self.bad(at, rows[:at] + [other] + rows[at + 1:])

    def test_truths_are_no_numbers(self):
        wood = planted(Floor(20), "near", "a")
        for rows, at in (
            ([rows_of(NOTHING, MARK)[0], (True, ("end", 2), check_due((1, ("end", 2))))], 1),
            ([(False, *rows_of(NOTHING, MARK)[0][1:]), rows_of(NOTHING, MARK)[1]], 0),
            (rows_of(("", False), MARK), 0), (rows_of(NOTHING, ("far", True)), 0),
            (rows_of(NOTHING, MARK, ("file", "f", True)), 1), (rows_of(NOTHING, MARK, ("file", "f", 9), ("cells", "f", True, (1,))), 2),
            (rows_of(NOTHING, MARK, ("file", "f", 9), ("cells", "f", 1, (True,))), 2),
        ):
            self.kept(wood, BadRow, [at], put_in, wood, "a", rows, "m")

    def test_begin(self):
        wood = planted(Floor(20), "near", "a")
        for mark in NO_MARKS:
            self.kept(wood, BadRow, [0], put_in, wood, "a", self.numbered(("begin", mark, MARK), ("end", 2)), "m")
            self.kept(wood, BadRow, [0], put_in, wood, "a", self.numbered(("begin", NOTHING, mark), ("end", 2)), "m")
        self.kept(wood, BadRow, [0], put_in, wood, "a", numbered(("begin", NOTHING, NOTHING), ("end", 2)), "m")
        for stuff in (("begin",), ("begin", NOTHING), ("begin", NOTHING, MARK, MARK), ("begins", NOTHING, MARK),
                      ("end", 1), ("folder", "a"), 0, "begin", (), MARK):
            self.kept(wood, BadRow, [0], put_in, wood, "a", numbered(stuff, ("end", 2)), "m")
        for mark in (("a", 1), ("abcdefgh", GREATEST), ("0", 5)):
            wood = planted(Floor(20), "near", "a")
            put_in(wood, "a", rows_of(NOTHING, mark), "m")
            self.same(wood.mark_of("m"), mark)
            put_in(wood, "a", rows_of(mark, mark), "n")

    def numbered(self, *stuffs):
        """With checks as far as there can be some."""
        rows = []
        for at, stuff in enumerate(stuffs):
            try:
                rows.append((at, stuff, check_due((at, stuff))))
            except TypeError:
                rows.append((at, stuff, 0))
        return rows

    def test_end(self):
        begin, wood = ("begin", NOTHING, MARK), planted(Floor(20), "near", "a")
        for at, stuffs in (
            (1, [begin, ("end", 1)]), (1, [begin, ("end", 3)]), (1, [begin, ("end", 0)]), (1, [begin, ("end",)]),
            (1, [begin, ("end", 2, 2)]), (1, [begin, ("ends", 2)]), (1, [begin, ("end", "2")]), (1, [begin, begin]),
            (1, [begin, begin, ("end", 3)]), (2, [begin, ("end", 2), ("end", 3)]), (2, [begin, ("end", 2), ("folder", "a")]),
            (2, [begin, ("end", 2), ("end", 2)]), (2, [begin, ("folder", "a"), ("end", 2)]), (2, [begin, ("folder", "a")]),
            (1, [begin]), (0, []), (2, [begin, ("end", 2), 5]),
        ):
            self.kept(wood, BadRow, [at], put_in, wood, "a", numbered(*stuffs), "m")

    def test_forms_of_changes(self):
        wood = planted(Floor(20), "near", "a")
        paths = ["", "/", "a/", "A", "a b", "abcdefghi", "a/b/c/d/e/f/g", 5, ("a",), ()]
        bad = [(name, path, *more) for path in paths for name, *more in
               (("gone",), ("folder",), ("file", 1), ("size", 1), ("cells", 0, (1,)))]
        bad += [("gone",), ("folder",), ("gone", "f", 1), ("folder", "f", 0), ("file", "f"), ("size", "f"), ("cells", "f"),
                ("file", "f", 1, 1), ("size", "f", 1, 1), ("cells", "f", 0), ("cells", "f", 0, (1,), 1), ("cells", "f", (1,)),
                ("Gone", "f"), ("", "f"), (0, "f"), ((), "f"), ("put", "f", 0, (1,)), ("trim", "f", 1), ("drop", "f"), (), 0, "gone"]
        bad += [(name, "f", size) for name in ("file", "size") for size in (41, 100, GREATEST, "1", (), (1,))]
        bad += [("cells", "f", at, cells) for at, cells in (
            (40, (1,)), (41, (1,)), ("0", (1,)), ((), (1,)), (0, ()), (0, (1,) * 41), (1, (1,) * 40), (39, (1, 1)), (0, (1000000,)),
            (0, (1, GREATEST)), (0, ("1",)), (0, ((1,),)), (0, 1), (0, "1"), (20, (1,) * 21))]
        for change in bad:
            rows = rows_of(NOTHING, MARK, ("file", "f", 40), change)
            self.kept(wood, BadRow, [2], put_in, wood, "a", rows, "m")
            self.kept(wood, BadRow, [2], put_in, wood, "a", rows[:-1], "m")
        for change in (("cells", "f", -1, (1,)), ("file", "f", -1), ("cells", "f", 0, (-1,)), ("cells", "f", 0, [1]),
                       ("cells", "f", 0, (None,)), ("file", "f", None), ("gone", None), (None, "f"), ["gone", "f"]):
            rows = self.numbered(("begin", NOTHING, MARK), ("file", "f", 40), change, ("end", 4))
            self.kept(wood, BadRow, [2], put_in, wood, "a", rows, "m")

    def test_what_cannot_be_done(self):
        wood = planted(Floor(80), "near", "a")
        full = [("folder", f"full/{at}") for at in range(8)]
        put_in(wood, "a", rows_of(NOTHING, MARK, ("file", "f", 3), ("folder", "d"), ("folder", "full"), *full), "m")
        for change in (
            ("gone", "x"), ("gone", "d/x"), ("gone", "f/x"), ("gone", "x/y"),
            ("folder", "f"), ("folder", "d"), ("folder", "x/y"), ("folder", "f/y"), ("folder", "full/8"), ("folder", "d/x/y"),
            ("file", "f", 3), ("file", "d", 0), ("file", "x/y", 1), ("file", "f/y", 1), ("file", "full/8", 1),
            ("size", "x", 1), ("size", "d", 1), ("size", "f/x", 1), ("size", "full/8", 1),
            ("cells", "x", 0, (1,)), ("cells", "d", 0, (1,)), ("cells", "f/x", 0, (1,)), ("cells", "full/8", 0, (1,)),
            ("cells", "f", 3, (1,)), ("cells", "f", 2, (1, 1)), ("cells", "f", 0, (1, 1, 1, 1)), ("cells", "f", 39, (1,)),
        ):
            for ahead in ([], [("folder", "new")], [("file", "new", 1), ("gone", "new")]):
                rows = rows_of(MARK, MARK, *ahead, change, ("gone", "never"))
                self.kept(wood, BadRow, [len(ahead) + 1], put_in, wood, "a", rows, "n")
        # What the changes ahead have done counts, the deed being one.
        for changes_told in ([("gone", "d"), ("folder", "d")], [("gone", "full/3"), ("file", "full/8", 1)],
                             [("folder", "x"), ("folder", "x/y"), ("gone", "x")], [("size", "f", 4), ("cells", "f", 3, (1,))]):
            put_in(come_up(wood.floor.copied()), "a", rows_of(MARK, MARK, *changes_told), "n")
            self.kept(wood, BadRow, [1], put_in, wood, "a", rows_of(MARK, MARK, *changes_told[1:]), "n")

    def test_what_cannot_be_done_comes_ahead_of_over_and_no_room(self):
        wood = planted(Floor(6), "near", "a")
        wood.set_limit("a", "", 1)
        self.kept(wood, BadRow, [2], put_in, wood, "a", rows_of(NOTHING, MARK, ("folder", "d"), ("gone", "x")), "m")
        self.kept(wood, Over, ["", 2], put_in, wood, "a", rows_of(NOTHING, MARK, ("folder", "d")), "m")


class Chains(WoodCase):
    """Promise 7: makes sent from wood to wood, also while the power goes."""

    def grow(self, chance, wood, model):
        for again in range(chance.randint(0, 4)):
            name, *handed = Requests(chance, model).request()
            tried = model.twin_tree()
            try:
                getattr(tried, name)(*handed)
                tried.need_limits()
            except Refused:
                continue
            getattr(wood, name)("a", *handed)
            model.tree = tried.tree

    def receive(self, chance, wood, births, rows, name):
        """Put in, perhaps behind some falls."""
        for again in range(chance.choice((0, 0, 1, 2))):
            before = [wood.stamp, wood.heads(), wood.lying()]
            wood.floor.cut_after(chance.randint(0, 3))
            try:
                put_in(wood, "a", rows, name)
            except PowerGone:
                self.all_down(wood)
                wood.floor.power_on()
                wood = come_up(wood.floor, births)
                self.assertEqual([wood.stamp, wood.heads(), wood.lying()], before)
            else:
                wood.floor.power_on()
                return wood
        put_in(wood, "a", rows, name)
        return wood

    def test_chains(self):
        for seed in range(12):
            chance = random.Random(seed)
            births = seed % 2 == 1
            first = planted(Floor(600), "first", "a", births)
            woods = [planted(Floor(600), f"w{at}", "a", births) for at in range(3)]
            model = Paths()
            kept = None
            for number in range(20):
                self.grow(chance, first, model)
                name = f"m{number}"
                first.make("a", name)
                rows = sent(first, kept, name)
                for at, wood in enumerate(woods):
                    # Handed on, from wood to wood: each has the mark of the first one's make.
                    wood = woods[at] = self.receive(chance, wood, births, rows, name)
                    self.assertEqual(read_head(wood, "a"), model.reading())
                    self.assertEqual(read_head(wood, name), model.reading())
                    self.same(wood.mark_of(name), first.mark_of(name))
                    rows = sent(wood, kept, name)
                for wood in [first, *woods]:
                    if kept and chance.random() < 0.9 or number % 8 == 7:
                        self.clear(wood, name)
                kept = name

    def clear(self, wood, name):
        for one, kind, root in wood.heads():
            if kind == "make" and one != name:
                wood.go(one)


class PuttingInByBirths(PuttingIn):
    births = True


if __name__ == "__main__":
    unittest.main()
