"""Promises 58 to 62 and 64 to 67, with 1 to 5: a wood's deeds, one by one, by counts and by births."""

import unittest

from clonewood.errors import (
    Crowded, Needed, NoCells, NoHead, NoPath, NoPiece, NoPlace, NoRoom, NoSpan, NotFile, NotFolder, NotGrowth, NotMake,
    NotThere, NoWord, OldHead, Over, Spoilt, There, TooDeep, TooMany, Within,
)
from clonewood.floor import Floor
from clonewood.growing import Deed
from clonewood.heads import is_top
from clonewood.knots import CellsKnot, FileKnot, FolderKnot
from clonewood.planting import come_up, planted
from clonewood.wood import Wood
from helper import NO_PATHS, WoodCase, all_told, comes_to, points_in, read_head

NO_WORDS = ["", "A", "a b", "a/b", "abcdefghi", ".", None, 7, True, [], ["a"], (), {}, b"a"]
NO_HEADS = ["", "x", "A", "a ", "abcdefghi", "."]


class InEachBook:
    """The tests of a class, once by counts and once by births."""

    births = False

    def setUp(self):
        self.floor = Floor(60)
        self.wood = planted(self.floor, "wood", "a", self.births)

    def do(self, name, *handed):
        """A deed, with all that promise 62 tells of its writes, its stamp, what it frees and what rests behind it."""
        wood = self.wood
        lay, spare, stamp, writes = wood.lying(), wood.spare(), wood.stamp, len(self.floor.writes())
        told = getattr(wood, name)(*handed)
        self.assertIs(type(told), tuple)
        written, freed = told
        self.assertEqual([type(written), type(freed)], [list, list])
        self.same(wood.stamp, stamp + 1)
        self.assertEqual(self.floor.writes()[writes:], written + [wood.stamp % 2])
        self.assertTrue(set(written) <= set(spare))
        for at, place in enumerate(written):
            self.assertTrue(points_in(self.floor.read(place)) <= set(lay + written[:at]))
            self.same(self.floor.read(place)[1], wood.stamp)
        self.same(wood.lying(), sorted(comes_to(self.floor, [root for name, kind, root in wood.heads()])))
        self.same(freed, sorted(set(lay) - set(wood.lying())))
        self.same(wood.resting(), freed)
        self.same(wood.spare(), sorted(set(range(2, self.floor.many)) - set(wood.lying()) - set(freed)))
        self.assertTrue(is_top(self.floor.read(wood.stamp % 2), wood.stamp % 2))
        # What is told is the asker's own.
        written.append("more")
        freed.append("more")
        self.assertNotIn("more", wood.resting() + wood.lying())
        return len(written) - 1, len(freed) - 1

    def refuse(self, error, fields, name, *handed):
        self.kept(self.wood, error, fields, getattr(self.wood, name), *handed)

    def top(self):
        return self.floor.read(self.wood.stamp % 2)


class Deeds(InEachBook, WoodCase):
    def test_a_wood_as_it_is_planted(self):
        self.assertIs(type(self.wood), Wood)
        self.assertIs(self.wood.floor, self.floor)
        self.same([self.wood.word, self.wood.stamp], ["wood", 1])
        root = self.wood.root_of("a")
        self.same(self.wood.heads(), [("a", "growth", root)])
        self.same(self.wood.lying(), [root])
        self.same(self.wood.resting(), [])
        self.same(self.top(), ("top", 1, "wood", ((1, 0, ""),), (("a", 1, 0, root, "", 0),)))

    def test_each_deed_of_a_tree(self):
        self.assertEqual(self.do("folder", "a", "b"), (2, 1))
        self.assertEqual(self.do("folder", "a", "b/c"), (3, 2))
        self.assertEqual(self.do("put", "a", "b/c/f", 3, list(range(1, 18))), (3 + 1 + 3, 3))
        self.assertEqual(self.do("trim", "a", "b/c/f", 11), (4, 6))
        self.assertEqual(self.do("hollow", "a", "b/c/f", 5, 2), (4, 4))
        self.assertEqual(self.do("share", "a", "b/c/f", 3, 6, "g", 1), (2, 1))
        self.assertEqual(self.do("twin", "a", "b/c/f", "b/h"), (2, 2))
        self.assertEqual(self.do("move", "a", "b/c", "d"), (2, 2))
        self.assertEqual(self.do("set_limit", "a", "", 9), (1, 1))
        self.assertEqual(self.do("set_limit", "a", "d", 3), (2, 2))
        cells = [0, 0, 0, 1, 2, 0, 0, 5, 6, 7, 8]
        due = {"": None, "b": None, "b/h": cells, "d": None, "d/f": cells, "g": [0, 1, 2, 0, 0, 5, 6]}
        self.assertEqual(read_head(self.wood, "a"), due)
        self.assertEqual(self.do("drop", "a", "b"), (1, 2))
        self.assertEqual(self.do("drop", "a", "d"), (1, 3))
        self.assertEqual(read_head(self.wood, "a"), {"": None, "g": due["g"]})
        self.assertEqual(self.do("drop", "a", "g"), (1, 3))
        self.same(len(self.wood.lying()), 1)

    def test_cells_are_pieces_of_eight(self):
        self.do("put", "a", "f", 0, list(range(20)))
        root = self.wood.knot_at(self.wood.root_of("a"))
        self.assertIs(type(root), FolderKnot)
        file = self.wood.knot_at(root.entry("f")[1])
        self.assertIs(type(file), FileKnot)
        self.same([(at, long, skip) for at, long, place, skip in file.row], [(0, 8, 0), (8, 8, 0), (16, 4, 0)])
        for at, long, place, skip in file.row:
            self.assertIs(type(self.wood.knot_at(place)), CellsKnot)
            self.same(self.wood.knot_at(place).cells, tuple(range(at, at + long)))
            self.same(self.wood.piece(place), ("cells", 2, tuple(range(at, at + long))))

    def test_the_list_that_was_handed_in(self):
        cells = [1, 2, 3]
        self.do("put", "a", "f", 0, cells)
        cells[0] = 9
        self.same(self.wood.cells_at("a", "f"), [1, 2, 3])
        self.assertEqual(cells, [9, 2, 3])

    def test_a_place_rests_and_is_spare_then(self):
        first = self.wood.root_of("a")
        self.do("folder", "a", "b")
        self.same(self.wood.resting(), [first])
        self.assertNotIn(first, self.wood.spare())
        self.do("folder", "a", "c")
        self.assertNotIn(first, self.wood.resting())
        self.assertIn(first, self.wood.spare())
        self.do("make", "a", "m")
        self.same(self.wood.resting(), [])

    def test_what_a_make_keeps_is_not_freed(self):
        self.do("put", "a", "f", 0, [1])
        self.do("make", "a", "m")
        kept = self.wood.lying()
        self.assertEqual(self.do("put", "a", "f", 0, [2]), (3, 0))
        self.assertEqual(self.do("put", "a", "f", 0, [3]), (3, 3))
        self.assertEqual(self.do("drop", "a", "f"), (1, 3))
        self.same(self.wood.cells_at("m", "f"), [1])
        self.assertEqual(self.do("go", "m"), (0, 3))
        self.same(self.wood.resting(), kept)

    def test_lists_are_new_each_time(self):
        self.do("put", "a", "f", 0, [1, 2])
        wood = self.wood
        for ask in (wood.heads, wood.lying, wood.resting, wood.spare, lambda: wood.names_at("a", ""),
                    lambda: wood.cells_at("a", "f")):
            self.told_anew(ask)

    def test_refusals_of_heads_come_first(self):
        self.do("make", "a", "m")
        deeds = [("folder", ""), ("put", "", -1, None), ("trim", "A", 99), ("hollow", "", 9, 99), ("twin", "", ""),
                 ("share", "", -1, -1, "", -1), ("drop", ""), ("move", "", ""), ("set_limit", "A", 1000)]
        for name, *handed in deeds:
            for growth in NO_HEADS:
                self.refuse(NoHead, [growth], name, growth, *handed)
            self.refuse(NotGrowth, ["m"], name, "m", *handed)

    def test_refusals_of_trees(self):
        for path in ("f", "full/a", "full/b", "full/c", "full/d", "full/e", "full/f", "full/g", "full/h"):
            if path == "full/a":
                self.do("folder", "a", "full")
            self.do("put", "a", path, 0, [1, 2])
        for path in NO_PATHS + [""]:
            for name, *handed in (("folder",), ("put", 0, [1]), ("trim", 1), ("hollow", 0, 1), ("share", 0, 1, "f", 0),
                                  ("twin", "g"), ("drop",), ("move", "g")):
                self.refuse(NoPath, [path], name, "a", path, *handed)
            if path != "":
                self.refuse(NoPath, [path], "set_limit", "a", path, 1)
        self.refuse(There, ["f"], "folder", "a", "f")
        self.refuse(NotThere, ["x/y"], "folder", "a", "x/y")
        self.refuse(Crowded, ["full"], "put", "a", "full/i", 0, [1])
        self.refuse(NoCells, [], "put", "a", "f", 0, [])
        self.refuse(NoSpan, [39, 2], "put", "a", "f", 39, [1, 2])
        self.refuse(NoSpan, [0, 41], "trim", "a", "f", 41)
        self.refuse(NotFile, ["full"], "trim", "a", "full", 1)
        self.refuse(NoSpan, [1, 2], "hollow", "a", "f", 1, 2)
        self.refuse(NoSpan, [0, 3], "share", "a", "f", 0, 3, "g", 0)
        self.refuse(Crowded, ["full"], "twin", "a", "f", "full/i")
        self.refuse(NotThere, ["x"], "drop", "a", "x")
        self.refuse(Within, ["full/i/j"], "move", "a", "full", "full/i/j")
        self.refuse(NoSpan, [0, 1000], "set_limit", "a", "", 1000)
        self.refuse(NotFolder, ["f"], "set_limit", "a", "f", 1)
        self.do("folder", "a", "p")
        for path in ("p/q", "p/q/r", "p/q/r/s", "p/q/r/s/t"):
            self.do("folder", "a", path)
        self.refuse(TooDeep, ["p/q/r/s/t/u"], "move", "a", "full", "p/q/r/s/t/u")

    def test_over_comes_behind_the_tree(self):
        self.do("folder", "a", "b")
        self.do("folder", "a", "b/c")
        self.do("set_limit", "a", "b", 3)
        self.refuse(Over, ["b", 5], "put", "a", "b/f", 0, [1] * 16)
        self.refuse(Over, ["b", 4], "put", "a", "b/c/f", 0, [1])
        self.refuse(There, ["b/c"], "folder", "a", "b/c")
        self.assertEqual(self.do("folder", "a", "b/d"), (3, 2))
        self.refuse(Over, ["b", 4], "folder", "a", "b/e")
        self.refuse(Over, ["", 4], "set_limit", "a", "", 3)
        self.refuse(Over, ["b", 3], "set_limit", "a", "b", 2)
        self.do("set_limit", "a", "", 4)
        self.refuse(Over, ["", 5], "folder", "a", "b/e")
        self.refuse(Over, ["", 6], "put", "a", "f", 0, [1])
        self.do("set_limit", "a", "", 0)
        self.do("put", "a", "f", 0, [1])
        # A file that stands there twice weighs once.
        self.do("drop", "a", "b/d")
        self.do("drop", "a", "b/c")
        self.do("twin", "a", "f", "b/f")
        self.do("twin", "a", "f", "b/g")
        self.refuse(Over, ["b", 4], "trim", "a", "b/g", 1)
        self.do("set_limit", "a", "b", 999)
        self.do("trim", "a", "b/g", 1)

    def test_over_comes_ahead_of_no_room(self):
        self.floor = Floor(7)
        self.wood = planted(self.floor, "wood", "a", self.births)
        self.do("set_limit", "a", "", 3)
        self.refuse(Over, ["", 4], "put", "a", "f", 0, [1] * 16)
        self.do("set_limit", "a", "", 4)
        self.refuse(NoRoom, [4, 3], "put", "a", "f", 0, [1] * 16)

    def test_no_room(self):
        self.floor = Floor(8)
        self.wood = planted(self.floor, "wood", "a", self.births)
        self.refuse(NoRoom, [7, 5], "put", "a", "f", 0, [1] * 40)
        self.do("put", "a", "f", 0, [1] * 24)
        self.refuse(NoRoom, [2, 0], "folder", "a", "b")
        self.refuse(NoRoom, [1, 0], "sprout", "b")
        self.refuse(NoRoom, [1, 0], "drop", "a", "f")
        self.do("make", "a", "m")
        self.refuse(NoRoom, [2, 1], "folder", "a", "b")
        self.assertEqual(self.do("drop", "a", "f"), (1, 0))
        self.refuse(NoRoom, [1, 0], "sprout", "b")
        self.do("go", "m")
        self.same(self.wood.spare(), [])
        self.refuse(NoRoom, [1, 0], "sprout", "b")
        self.do("make", "a", "n")
        self.same(len(self.wood.spare()), 5)
        self.assertEqual(self.do("sprout", "b"), (1, 0))


class Heads(InEachBook, WoodCase):
    def test_a_make(self):
        self.do("put", "a", "f", 0, [5])
        self.assertEqual(self.do("make", "a", "m"), (0, 0))
        root = self.wood.root_of("a")
        self.same(self.wood.heads(), [("a", "growth", root), ("m", "make", root)])
        self.same(self.wood.mark_of("m"), ("wood", 3))
        self.same(self.top(), ("top", 3, "wood", ((1, 0, ""),),
                               (("a", 1, 0, root, "", 0), ("m", 1, 3, root, "wood", 3))))
        self.do("put", "a", "f", 0, [6])
        self.same([self.wood.cells_at(name, "f") for name in "am"], [[6], [5]])

    def test_refusals_of_a_make(self):
        self.do("make", "a", "m")
        for name in NO_WORDS:
            for growth in NO_HEADS:
                self.refuse(NoHead, [growth], "make", growth, name)
            self.refuse(NotGrowth, ["m"], "make", "m", name)
            self.refuse(NoWord, [name], "make", "a", name)
        for name in ("a", "m"):
            self.refuse(OldHead, [name], "make", "a", name)

    def test_a_clone(self):
        self.do("put", "a", "f", 0, [5])
        self.do("make", "a", "m")
        self.do("put", "a", "f", 0, [6])
        self.assertEqual(self.do("clone", "m", "b"), (0, 0))
        root, old = self.wood.root_of("a"), self.wood.root_of("m")
        self.same(self.wood.heads(), [("a", "growth", root), ("b", "growth", old), ("m", "make", old)])
        self.same(self.top()[3:], (((1, 0, ""), (5, 3, "m")), (
            ("a", 1, 0, root, "", 0), ("b", 5, 0, old, "", 0), ("m", 1, 3, old, "wood", 3))))
        self.do("put", "b", "f", 1, [7])
        self.same([self.wood.cells_at(name, "f") for name in "abm"], [[6], [5, 7], [5]])

    def test_refusals_of_a_clone(self):
        self.do("make", "a", "m")
        for name in NO_WORDS:
            for make in NO_HEADS:
                self.refuse(NoHead, [make], "clone", make, name)
            self.refuse(NotMake, ["a"], "clone", "a", name)
            self.refuse(NoWord, [name], "clone", "m", name)
        for name in ("a", "m"):
            self.refuse(OldHead, [name], "clone", "m", name)

    def test_a_sprout(self):
        self.do("folder", "a", "b")
        self.assertEqual(self.do("sprout", "c"), (1, 0))
        root, new = self.wood.root_of("a"), self.wood.root_of("c")
        self.same(self.wood.piece(new), ("folder", 3, 0, ()))
        self.same(self.top()[3:], (((1, 0, ""), (3, 0, "")), (("a", 1, 0, root, "", 0), ("c", 3, 0, new, "", 0))))
        for name in NO_WORDS:
            self.refuse(NoWord, [name], "sprout", name)
        for name in ("a", "c"):
            self.refuse(OldHead, [name], "sprout", name)

    def test_twelve_heads(self):
        for at in range(4):
            self.do("make", "a", f"m{at}")
            self.do("clone", "m0", f"c{at}")
        for name in ("s1", "s2", "s3"):
            self.do("sprout", name)
        self.same(len(self.wood.heads()), 12)
        for name, *handed in (("make", "a"), ("clone", "m1"), ("sprout",)):
            self.refuse(TooMany, [12], name, *handed, "new")
            self.refuse(OldHead, ["s1"], name, *handed, "s1")
            self.refuse(NoWord, ["New"], name, *handed, "New")
        self.refuse(TooMany, [12], "take_in", "a", self.wood.begin("a"), "new", "w", 1)
        self.refuse(TooMany, [12], "need_take", "a", "new")
        self.do("folder", "a", "b")
        self.do("go", "s1")
        self.do("make", "a", "new")

    def test_too_many_comes_ahead_of_no_room(self):
        self.floor = Floor(4)
        self.wood = planted(self.floor, "wood", "a", self.births)
        self.do("sprout", "b")
        self.refuse(NoRoom, [1, 0], "sprout", "c")
        for at in range(10):
            self.do("make", "a", f"m{at}")
        self.refuse(TooMany, [12], "sprout", "c")

    def test_heads_are_told_by_names(self):
        for name in ("zz", "0", "b9", "b"):
            self.do("sprout", name)
        self.same([name for name, kind, root in self.wood.heads()], ["0", "a", "b", "b9", "zz"])
        self.same([head[0] for head in self.top()[4]], ["0", "a", "b", "b9", "zz"])

    def test_a_growth_goes_and_its_makes_stay(self):
        self.do("put", "a", "f", 0, [5])
        self.do("make", "a", "m")
        self.do("put", "a", "f", 0, [6])
        self.assertEqual(self.do("go", "a"), (0, 3))
        self.same(self.wood.cells_at("m", "f"), [5])
        self.same(self.top()[3:], (((1, 0, ""),), (("m", 1, 3, self.wood.root_of("m"), "wood", 3),)))
        self.refuse(NoHead, ["a"], "folder", "a", "x")
        self.refuse(NoHead, ["a"], "go", "a")
        self.do("clone", "m", "a")
        self.same(self.top()[3], ((1, 0, ""), (6, 3, "m")))

    def test_the_last_head_goes(self):
        self.do("put", "a", "f", 0, [5])
        lay = self.wood.lying()
        self.assertEqual(self.do("go", "a"), (0, 3))
        self.same([self.wood.heads(), self.wood.lying(), self.wood.resting()], [[], [], lay])
        self.same(self.top(), ("top", 3, "wood", (), ()))
        self.refuse(NoHead, ["a"], "go", "a")
        self.assertEqual(self.do("sprout", "a"), (1, 0))
        self.same(self.top()[3], ((4, 0, ""),))

    def test_needed(self):
        self.do("make", "a", "m")
        self.do("make", "a", "n")
        self.do("clone", "m", "z")
        self.refuse(Needed, ["m", "z"], "go", "m")
        self.do("clone", "m", "k")
        self.refuse(Needed, ["m", "k"], "go", "m")
        # Every head of such a line counts, makes of it too, and its growth no more when it has gone.
        self.do("make", "z", "b")
        self.refuse(Needed, ["m", "b"], "go", "m")
        self.do("go", "z")
        self.refuse(Needed, ["m", "b"], "go", "m")
        self.do("go", "b")
        self.refuse(Needed, ["m", "k"], "go", "m")
        for name in NO_HEADS:
            self.refuse(NoHead, [name], "go", name)
        self.do("go", "n")
        self.do("go", "a")
        self.refuse(Needed, ["m", "k"], "go", "m")
        self.do("go", "k")
        self.do("go", "m")
        self.same(self.wood.heads(), [])

    def test_lines_of_clones_of_clones(self):
        self.do("put", "a", "f", 0, [1])
        self.do("make", "a", "m")
        self.do("clone", "m", "b")
        self.do("put", "b", "f", 1, [2])
        self.do("make", "b", "n")
        self.do("clone", "n", "c")
        self.do("put", "c", "f", 2, [3])
        self.same(self.top()[3], ((1, 0, ""), (4, 3, "m"), (7, 6, "n")))
        self.refuse(Needed, ["n", "c"], "go", "n")
        self.refuse(Needed, ["m", "b"], "go", "m")
        self.do("go", "b")
        self.refuse(Needed, ["m", "n"], "go", "m")
        self.do("go", "a")
        self.same([self.wood.cells_at(name, "f") for name in "mnc"], [[1], [1, 2], [1, 2, 3]])
        self.do("go", "c")
        self.do("go", "n")
        self.do("go", "m")
        self.same(self.wood.lying(), [])

    def test_stands_on(self):
        self.same(self.wood.stands_on("a"), None)
        self.do("make", "a", "z")
        self.same(self.wood.stands_on("a"), "z")
        self.do("make", "a", "m")
        self.same(self.wood.stands_on("a"), "m")
        self.do("clone", "z", "b")
        self.same(self.wood.stands_on("b"), "z")
        self.do("make", "b", "n")
        self.same(self.wood.stands_on("b"), "n")
        self.do("go", "m")
        self.same(self.wood.stands_on("a"), "z")
        self.do("go", "n")
        self.same(self.wood.stands_on("b"), "z")
        self.do("sprout", "s")
        self.same(self.wood.stands_on("s"), None)
        for name in NO_HEADS:
            self.refuse(NoHead, [name], "stands_on", name)
        self.refuse(NotGrowth, ["z"], "stands_on", "z")

    def test_stands_on_the_greatest_stamp(self):
        # Ten comes behind nine, and the names say nothing of it.
        for at in range(9):
            self.do("make", "a", f"m{9 - at}")
            self.same(self.wood.stands_on("a"), f"m{9 - at}")

    def test_marks(self):
        self.do("make", "a", "m")
        self.same(self.wood.mark_of("m"), ("wood", 2))
        self.refuse(NotMake, ["a"], "mark_of", "a")
        for name in NO_HEADS:
            self.refuse(NoHead, [name], "mark_of", name)
            self.refuse(NoHead, [name], "root_of", name)

    def test_what_is_told_of_each_head(self):
        self.do("put", "a", "f", 2, [5])
        self.do("folder", "a", "b")
        self.do("make", "a", "m")
        self.do("drop", "a", "f")
        self.do("folder", "a", "b/0")
        self.same(self.wood.kind_at("a", ""), "folder")
        self.same([self.wood.kind_at("m", path) for path in ("", "b", "f")], ["folder", "folder", "file"])
        self.same([self.wood.names_at("m", ""), self.wood.names_at("m", "b")], [["b", "f"], []])
        self.same([self.wood.names_at("a", ""), self.wood.names_at("a", "b")], [["b"], ["0"]])
        self.same([self.wood.size_at("m", "f"), self.wood.cells_at("m", "f")], [3, [0, 0, 5]])
        for name in ("kind_at", "names_at", "size_at", "cells_at"):
            for head in NO_HEADS:
                self.refuse(NoHead, [head], name, head, "A")
            for path in NO_PATHS:
                self.refuse(NoPath, [path], name, "m", path)
            self.refuse(NotThere, ["f"], name, "a", "f")
            self.refuse(NotThere, ["f/f"], name, "m", "f/f")
        self.refuse(NotFolder, ["f"], "names_at", "m", "f")
        for name in ("size_at", "cells_at"):
            self.refuse(NotFile, ["b"], name, "m", "b")
            self.refuse(NotFile, [""], name, "m", "")

    def test_pieces(self):
        self.same(self.wood.piece(1), self.top())
        self.refuse(NoPiece, [0], "piece", 0)
        for place in (-1, 60, None, "1", True):
            self.refuse(NoPlace, [place], "piece", place)
        self.floor.write(59, "odd")
        self.same(self.wood.piece(59), "odd")
        self.floor.harm(59)
        self.refuse(Spoilt, [59], "piece", 59)


class Taking(InEachBook, WoodCase):
    def test_a_deed_begun(self):
        self.do("folder", "a", "b")
        deed = self.wood.begin("a")
        self.assertIs(type(deed), Deed)
        self.same([deed.root, deed.now], [self.wood.root_of("a"), 3])
        before = all_told(self.wood)
        deed.folder("b/c")
        self.same(all_told(self.wood), before)
        self.do("make", "a", "m")
        self.refuse(NotGrowth, ["m"], "begin", "m")
        for name in NO_HEADS:
            self.refuse(NoHead, [name], "begin", name)

    def test_taken_in(self):
        self.do("put", "a", "f", 0, [1])
        deed = self.wood.begin("a")
        deed.put("f", 1, [2])
        deed.folder("b")
        deed.put("b/g", 0, [3])
        deed.drop("b/g")
        self.assertEqual(self.do("take_in", "a", deed, "m", "other", 4294967295), (4, 2))
        root = self.wood.root_of("a")
        self.same(self.wood.heads(), [("a", "growth", root), ("m", "make", root)])
        self.same(self.wood.mark_of("m"), ("other", 4294967295))
        self.same(self.wood.stands_on("a"), "m")
        self.same(self.top()[3:], (((1, 0, ""),), (("a", 1, 0, root, "", 0), ("m", 1, 3, root, "other", 4294967295))))
        self.assertEqual(read_head(self.wood, "m"), {"": None, "b": None, "f": [1, 2]})
        # The make has the stamp of the deed, whatever its mark is: what is born with it stays while it stands.
        self.assertEqual(self.do("drop", "a", "f"), (1, 0))
        self.assertEqual(self.do("go", "m"), (0, 4))
        self.do("make", "a", "n")
        self.same(self.wood.mark_of("n"), ("wood", 6))

    def test_a_deed_that_changes_nothing(self):
        self.do("put", "a", "f", 0, [1])
        root = self.wood.root_of("a")
        self.assertEqual(self.do("take_in", "a", self.wood.begin("a"), "m", "w", 1), (0, 0))
        self.same([self.wood.root_of("a"), self.wood.root_of("m"), self.wood.mark_of("m")], [root, root, ("w", 1)])
        self.assertEqual(self.do("drop", "a", "f"), (1, 0))
        self.assertEqual(self.do("go", "m"), (0, 3))

    def test_refusals(self):
        self.do("make", "a", "m")
        for deed in (None, 5, "deed", [], self.wood):
            for name in NO_WORDS:
                self.refuse(NoHead, ["x"], "take_in", "x", deed, name, "w", 1)
                self.refuse(NotGrowth, ["m"], "take_in", "m", deed, name, "w", 1)
        deed = self.wood.begin("a")
        deed.put("f", 0, [1] * 40)
        for name in NO_WORDS:
            self.refuse(NoWord, [name], "take_in", "a", deed, name, "w", 1)
            self.refuse(NoWord, [name], "need_take", "a", name)
            self.refuse(NoHead, ["x"], "need_take", "x", name)
            self.refuse(NotGrowth, ["m"], "need_take", "m", name)
        for name in ("a", "m"):
            self.refuse(OldHead, [name], "take_in", "a", deed, name, "w", 1)
            self.refuse(OldHead, [name], "need_take", "a", name)
        before = all_told(self.wood)
        self.assertIsNone(self.wood.need_take("a", "n"))
        self.same(all_told(self.wood), before)

    def test_over_and_no_room(self):
        self.floor = Floor(8)
        self.wood = planted(self.floor, "wood", "a", self.births)
        self.do("set_limit", "a", "", 6)
        deed = self.wood.begin("a")
        deed.put("f", 0, [1] * 40)
        self.refuse(OldHead, ["a"], "take_in", "a", deed, "a", "w", 1)
        self.refuse(Over, ["", 7], "take_in", "a", deed, "m", "w", 1)
        deed.trim("f", 32)
        self.refuse(NoRoom, [6, 4], "take_in", "a", deed, "m", "w", 1)
        deed.trim("f", 16)
        self.assertEqual(self.do("take_in", "a", deed, "m", "w", 1), (4, 1))


class DeedsByBirths(Deeds):
    births = True


class HeadsByBirths(Heads):
    births = True


class TakingByBirths(Taking):
    births = True


class FoundAgain(WoodCase):
    def test_a_deed_can_be_done_in_the_wood_that_is_found(self):
        for births in (False, True):
            floor = Floor(20)
            wood = planted(floor, "w", "a", births)
            wood.put("a", "f", 0, [1])
            wood.make("a", "m")
            found = come_up(floor, births)
            found.put("a", "f", 0, [2])
            found.clone("m", "b")
            self.same([found.cells_at(name, "f") for name in "abm"], [[2], [1], [1]])


if __name__ == "__main__":
    unittest.main()
