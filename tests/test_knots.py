"""Promises 30 to 32, with 3: knots."""

import unittest

from clonewood.knots import CellsKnot, FileKnot, FolderKnot, Knot, is_knot, knot_of
from helper import GREATEST, NO_NUMBERS, WoodCase

ROW = ((0, 8, 30, 0), (9, 2, 4, 1), (20, 3, 30, 2))
ENTRIES = (("a", "file", 9), ("b3", "folder", 7), ("box", "file", 9), ("z", "folder", 599))
NINE_NAMES = ["a", "b", "c", "d", "e", "f", "g", "h", "i"]


def entries_of(names, kind="file"):
    return tuple((name, kind, 10 + at) for at, name in enumerate(names))


class KnotCase(WoodCase):
    def setUp(self):
        self.cells = CellsKnot(3, (1, 0, 999999))
        self.file = FileKnot(4, 25, ROW)
        self.folder = FolderKnot(5, 12, ENTRIES)

    def tearDown(self):
        """No knot is ever changed by what it is asked."""
        self.same(self.cells.stuff(), ("cells", 3, (1, 0, 999999)))
        self.same(self.file.stuff(), ("file", 4, 25, ROW))
        self.same(self.folder.stuff(), ("folder", 5, 12, ENTRIES))


class Fields(KnotCase):
    def test_fields_and_kinds(self):
        self.same([self.cells.born, self.cells.cells, self.cells.kind()], [3, (1, 0, 999999), "cells"])
        self.same([self.file.born, self.file.size, self.file.row, self.file.kind()], [4, 25, ROW, "file"])
        folder = self.folder
        self.same([folder.born, folder.limit, folder.entries, folder.kind()], [5, 12, ENTRIES, "folder"])

    def test_all_stand_under_knot(self):
        self.same(Knot(8).born, 8)
        for knot in (self.cells, self.file, self.folder):
            self.assertIsInstance(knot, Knot)
            self.assertEqual(type(knot).__bases__, (Knot,))

    def test_arguments_by_name(self):
        self.same(CellsKnot(born=1, cells=(2,)).stuff(), ("cells", 1, (2,)))
        self.same(FileKnot(born=1, size=2, row=()).stuff(), ("file", 1, 2, ()))
        self.same(FolderKnot(born=1, limit=2, entries=()).stuff(), ("folder", 1, 2, ()))


class Points(KnotCase):
    def test_points_rising_each_once(self):
        self.same(self.cells.points(), [])
        self.same(self.file.points(), [4, 30])
        self.same(self.folder.points(), [7, 9, 599])
        self.same(FileKnot(1, 40, ()).points(), [])
        self.same(FolderKnot(1, 0, ()).points(), [])
        self.same(FolderKnot(1, 0, (("a", "file", 100), ("b", "file", 9))).points(), [9, 100])
        self.same(FileKnot(1, 40, ((0, 1, 5000, 0), (1, 1, 0, 0))).points(), [0, 5000])

    def test_the_lists_are_new(self):
        for knot in (self.cells, self.file, self.folder):
            self.told_anew(knot.points)


class Moves(KnotCase):
    def moved(self, knot, places, stuff):
        kept = dict(places)
        other = knot.moved(places)
        self.assertIs(type(other), type(knot))
        self.assertIsNot(other, knot)
        self.same(other.stuff(), stuff)
        self.assertEqual(places, kept)

    def test_cells_stay(self):
        self.moved(self.cells, {}, ("cells", 3, (1, 0, 999999)))
        self.moved(self.cells, {0: 7, 1: 8, 3: 9}, ("cells", 3, (1, 0, 999999)))

    def test_two_places_exchanged(self):
        self.moved(self.file, {30: 4, 4: 30}, ("file", 4, 25, ((0, 8, 4, 0), (9, 2, 30, 1), (20, 3, 4, 2))))
        swapped = (("a", "file", 7), ("b3", "folder", 9), ("box", "file", 7), ("z", "folder", 599))
        self.moved(self.folder, {9: 7, 7: 9}, ("folder", 5, 12, swapped))

    def test_each_looked_up_once(self):
        self.moved(self.file, {4: 30, 30: 31, 31: 32}, ("file", 4, 25, ((0, 8, 31, 0), (9, 2, 30, 1), (20, 3, 31, 2))))

    def test_places_alone_are_moved(self):
        self.moved(self.file, {0: 50, 8: 51, 9: 52, 20: 53, 25: 54, 1: 55, 2: 56, 3: 57}, ("file", 4, 25, ROW))
        self.moved(self.folder, {5: 50, 12: 51, 8: 52}, ("folder", 5, 12, ENTRIES))
        self.moved(self.file, {}, ("file", 4, 25, ROW))

    def test_any_numbers_as_places(self):
        knot = FileKnot(1, 2, ((0, 2, 1000, 0),))
        self.moved(knot, {1000: 4}, ("file", 1, 2, ((0, 2, 4, 0),)))
        knot = FolderKnot(1, 0, (("a", "file", 1001), ("b", "folder", 1000)))
        self.moved(knot, {1000: 1001, 1001: 5}, ("folder", 1, 0, (("a", "file", 5), ("b", "folder", 1001))))


class Entries(KnotCase):
    def test_entry(self):
        self.same(self.folder.entry("a"), ("file", 9))
        self.same(self.folder.entry("b3"), ("folder", 7))
        self.same(self.folder.entry("z"), ("folder", 599))
        for name in ("", "b", "bo", "boxy", "aa", "file"):
            self.assertIsNone(self.folder.entry(name))

    def test_an_entry_more(self):
        for name, at in (("0", 0), ("aa", 1), ("b4", 2), ("c", 3), ("zz", 4)):
            other = self.folder.with_entry(8, name, "folder", 77)
            self.same(other.stuff(), ("folder", 8, 12, ENTRIES[:at] + ((name, "folder", 77),) + ENTRIES[at:]))
            self.assertIs(type(other), FolderKnot)
        self.same(FolderKnot(1, 0, ()).with_entry(2, "x", "file", 3).stuff(), ("folder", 2, 0, (("x", "file", 3),)))
        seven = FolderKnot(1, 0, entries_of(NINE_NAMES[:7]))
        self.same(seven.with_entry(1, "h", "file", 17).stuff(), ("folder", 1, 0, entries_of(NINE_NAMES[:8])))

    def test_another_in_the_place_of_one(self):
        for at, (name, kind, place) in enumerate(ENTRIES):
            other = self.folder.with_entry(6, name, "file", 88)
            self.same(other.stuff(), ("folder", 6, 12, ENTRIES[:at] + ((name, "file", 88),) + ENTRIES[at + 1:]))

    def test_without_an_entry(self):
        for at, (name, kind, place) in enumerate(ENTRIES):
            other = self.folder.without_entry(6, name)
            self.same(other.stuff(), ("folder", 6, 12, ENTRIES[:at] + ENTRIES[at + 1:]))
        other = self.folder.without_entry(6, "none")
        self.same(other.stuff(), ("folder", 6, 12, ENTRIES))
        self.assertIsNot(other, self.folder)

    def test_with_another_limit(self):
        for limit in (0, 1, 12, 999):
            self.same(self.folder.with_limit(7, limit).stuff(), ("folder", 7, limit, ENTRIES))


class IsKnot(KnotCase):
    def yes(self, stuff):
        with self.subTest(repr(stuff)):
            self.assertIs(is_knot(stuff), True)
            knot = knot_of(stuff)
            self.same(knot.stuff(), stuff)
            self.same(knot.kind(), stuff[0])
            self.assertIs(type(knot), {"cells": CellsKnot, "file": FileKnot, "folder": FolderKnot}[stuff[0]])

    def no(self, thing):
        with self.subTest(repr(thing)):
            self.assertIs(is_knot(thing), False)

    def test_knots(self):
        for knot in (self.cells, self.file, self.folder):
            self.yes(knot.stuff())

    def test_born(self):
        for kind, *rest in (self.cells.stuff(), self.file.stuff(), self.folder.stuff()):
            self.yes((kind, 1, *rest[1:]))
            self.yes((kind, GREATEST, *rest[1:]))
            for born in [0, -1, GREATEST + 1, *NO_NUMBERS]:
                self.no((kind, born, *rest[1:]))

    def test_cells(self):
        for many in range(1, 9):
            self.yes(("cells", 1, (7,) * many))
        self.no(("cells", 1, ()))
        self.no(("cells", 1, (7,) * 9))
        self.yes(("cells", 1, (0,)))
        self.yes(("cells", 1, (5, 999999)))
        for cell in [-1, 1000000, *NO_NUMBERS]:
            self.no(("cells", 1, (cell,)))
            self.no(("cells", 1, (5, cell)))
        self.no(("cells", 1, [5]))
        for cells in NO_NUMBERS + [5]:
            if cells != (4,):
                self.no(("cells", 1, cells))

    def test_file(self):
        self.yes(("file", 1, 0, ()))
        self.yes(("file", 1, 40, ()))
        self.yes(("file", 1, 40, ((39, 1, 599, 7),)))
        self.yes(("file", 1, 23, ROW))
        self.no(("file", 1, 22, ROW))
        self.no(("file", 1, 25, list(ROW)))
        self.no(("file", 1, 25, (list(ROW[0]),)))
        self.no(("file", 1, 25, ((0, 1, 2, 0), (1, 1, 2, 1))))
        self.no(("file", 1, 25, ((0, 1, 600, 0),)))
        self.no(("file", 1, 25, ((0, 1, 1, 0),)))
        for size in [-1, 41, *NO_NUMBERS]:
            self.no(("file", 1, size, ()))
        for row in NO_NUMBERS:
            if row != ():
                self.no(("file", 1, 10, row))

    def test_folder_limits(self):
        self.yes(("folder", 1, 0, ()))
        self.yes(("folder", 1, 999, ()))
        for limit in [-1, 1000, *NO_NUMBERS]:
            self.no(("folder", 1, limit, ()))

    def test_how_many_entries(self):
        for many in range(9):
            self.yes(("folder", 1, 0, entries_of(NINE_NAMES[:many])))
        self.no(("folder", 1, 0, entries_of(NINE_NAMES)))

    def test_names(self):
        for names in (["b", "a"], ["a", "a"], ["a", "c", "b"], ["a", "b", "b", "c"], ["b", "9"], ["aa", "a"]):
            self.no(("folder", 1, 0, entries_of(names)))
        for name in ["", "A", "a/b", "abcdefghi", "a ", 7, *NO_NUMBERS]:
            if name not in ("4", "a"):
                self.no(("folder", 1, 0, ((name, "file", 9),)))

    def test_kinds_and_places_of_entries(self):
        for kind in ["cells", "File", "", "top", 7, ["file"], ("file",), *NO_NUMBERS]:
            self.no(("folder", 1, 0, (("a", kind, 9),)))
        for place in (2, 599):
            self.yes(("folder", 1, 0, (("a", "folder", place),)))
        for place in [1, 0, -2, 600, *NO_NUMBERS]:
            self.no(("folder", 1, 0, (("a", "file", place),)))

    def test_forms_of_entries(self):
        for entries in [list(ENTRIES), [], (["a", "file", 9],), (("a", "file"),), (("a", "file", 9, 9),), ("a", "file", 9)]:
            self.no(("folder", 1, 0, entries))
        for entries in NO_NUMBERS:
            if entries != ():
                self.no(("folder", 1, 0, entries))
            self.no(("folder", 1, 0, (entries,)))

    def test_things_of_any_kind(self):
        for thing in [0, 1, "cells", "file", "folder", ("cells",), ("file", 1), ("folder", 1, 0), self.cells, *NO_NUMBERS]:
            self.no(thing)
        for stuff in (self.cells.stuff(), self.file.stuff(), self.folder.stuff()):
            self.no(list(stuff))
            self.no(stuff[:-1])
            self.no(stuff + (0,))
            self.no(stuff + ((),))
            for kind in ["top", "", "Cells", None, 0, True, ["cells"], ("file",)]:
                self.no((kind, *stuff[1:]))
        self.no(("file", *self.folder.stuff()[1:]))
        self.no(("folder", *self.file.stuff()[1:]))
        self.no(("file", *self.cells.stuff()[1:]))
        self.no(("cells", *self.file.stuff()[1:]))


if __name__ == "__main__":
    unittest.main()
