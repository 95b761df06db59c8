"""Promises 50 to 59, with 3 to 5: deeds on a tree, one by one."""

import unittest

from clonewood.errors import (
    Crowded, NoCells, NoPath, NoSpan, NotFile, NotFolder, NotThere, Over, There, TooDeep, Within,
)
from clonewood.growing import Deed
from clonewood.knots import CellsKnot, FileKnot, FolderKnot, is_knot
from clonewood.trees import cells_at, listing, names_at, reach, seek, size_at
from helper import NO_NUMBERS, NO_PATHS, WoodCase, folder, small_forest

NO_CELLS = [
    [], [0] * 41, [-1], [1000000], [1, -1], [5, 1000000, 5], [None], ["1"], [True], [1, False], [[1]], (), (1,), (1, 2), "12",
    None, 1, 0, True, {}, {1: 1}, [1.0],
]
NO_SPANS = [
    (-1, 1), (0, 0), (0, -1), (0, 41), (40, 1), (39, 2), (1, 40), (41, 1), (-1, 0), (10 ** 9, 1), (1, 10 ** 9),
    *[(thing, 1) for thing in NO_NUMBERS], *[(0, thing) for thing in NO_NUMBERS],
]
NOT_THERE = ["x", "a/x", "b/x", "d/e/x", "x/y", "a0/x", "a/f/x", "c/x/y", "full/i", "a/in/deep/x/y"]
NO_FOLDER_OF = ["x/y", "a/x/y", "a0/y", "a/f/y", "c/x/y", "b/b/b/b", "d/e/f/x/h/i"]
FOLDERS = ["", "a", "a/in", "a/in/deep", "b", "full", "d/e/f/g/h/i"]
FILES = ["a0", "a/f", "a/in/g", "c", "c9", "full/a"]


def big_forest():
    """As small_forest(), with a full folder, one that is deep, and a folder with a limit."""
    forest = small_forest()
    entries = dict((name, (kind, place)) for name, kind, place in forest[2].entries)
    entries.update({"d": ("folder", 30), "full": ("folder", 7)})
    forest[2] = folder(entries)
    forest[7] = folder({name: ("file", 13) for name in "abcdefgh"}, limit=9)
    for at, name in enumerate("efghi"):
        forest[30 + at] = folder({name: ("folder", 31 + at)})
    forest[35] = folder({})
    return forest


class DeedCase(WoodCase):
    def setUp(self):
        self.forest = big_forest()
        self.deed = self.anew()

    def tearDown(self):
        """No knot that was there is changed."""
        kept = big_forest()
        self.assertEqual(self.forest.keys(), kept.keys())
        for place, knot in self.forest.items():
            self.same(knot.stuff(), kept[place].stuff())

    def anew(self, now=9):
        return Deed(self.forest.__getitem__, 2, now)

    def state(self):
        deed = self.deed
        return [deed.root, deed.now, deed.news(), [deed.view(place).stuff() for place in reach(deed.view, [deed.root])]]

    def refuse(self, error, fields, name, *handed):
        """A deed refused leaves root, news and tree as they were, and what was handed in too."""
        before = self.state()
        kept = repr(handed)
        self.refused(error, fields, getattr(self.deed, name), *handed)
        self.same(self.state(), before)
        self.assertEqual(repr(handed), kept)

    def done(self, name, *handed):
        self.assertIsNone(getattr(self.deed, name)(*handed))
        return self.deed

    def many_news(self, many):
        """So many are the news, and each comes behind those at which it points."""
        news = self.deed.news()
        self.assertEqual(len(news), many)
        self.assertEqual(len(set(news)), many)
        self.assertEqual(sorted(news), [place for place in reach(self.deed.view, [self.deed.root]) if place >= 1000])
        for at, place in enumerate(news):
            knot = self.deed.view(place)
            self.same(knot.born, self.deed.now)
            self.assertEqual([point for point in knot.points() if point >= 1000 and point not in news[:at]], [])
        self.told_anew(self.deed.news)

    def kind(self, path):
        return seek(self.deed.view, self.deed.root, path)

    def knot(self, path):
        return self.deed.view(self.kind(path)[1])

    def names(self, path):
        return names_at(self.deed.view, self.deed.root, path)

    def cells(self, path):
        return cells_at(self.deed.view, self.deed.root, path)

    def size(self, path):
        return size_at(self.deed.view, self.deed.root, path)

    def paths(self):
        return [row[0] for row in listing(self.deed.view, self.deed.root)]

    def row(self, path):
        return self.knot(path).row


class Beginning(DeedCase):
    def test_nothing_done_yet(self):
        self.same([self.deed.root, self.deed.now, self.deed.news()], [2, 9, []])
        self.same(self.deed.settled([]), ([], 2))
        self.same(self.deed.settled([50, 51]), ([], 2))

    def test_view(self):
        for place, knot in self.forest.items():
            self.assertIs(self.deed.view(place), knot)
        self.deed.folder("n")
        for place in self.deed.news():
            self.assertIsInstance(self.deed.view(place), FolderKnot)
        self.assertIs(self.deed.view(2), self.forest[2])

    def test_new_knots_have_places_of_their_own(self):
        roots = [self.deed.root]
        for name in ("m", "b/n", "b/n/o"):
            self.deed.folder(name)
            self.assertNotIn(self.deed.root, roots)
            self.assertGreaterEqual(self.deed.root, 1000)
            roots.append(self.deed.root)
        self.same([self.deed.view(root).born for root in roots], [1, 9, 9, 9])
        self.same(self.deed.view(roots[1]).entry("b"), ("folder", 6))


class Folders(DeedCase):
    def test_a_new_folder(self):
        for path, many in (("n", 2), ("b/n", 3), ("a/in/deep/n", 5), ("d/e/f/g/h/j", 7)):
            self.deed = self.anew()
            self.done("folder", path)
            self.assertEqual(self.names(path), [])
            self.same(self.knot(path).stuff(), ("folder", 9, 0, ()))
            self.many_news(many)
            self.assertEqual(self.paths(), sorted([path] + [row[0] for row in listing(self.forest.get, 2)]))

    def test_folders_on_the_way_keep_what_they_have(self):
        self.deed.set_limit("a", 50)
        self.deed.folder("a/n")
        self.same(self.knot("a").stuff()[:3], ("folder", 9, 50))
        self.same(self.knot("").entry("a0"), ("file", 10))
        self.assertEqual(self.names("a"), ["f", "in", "n"])

    def test_refusals(self):
        for path in ["", *NO_PATHS]:
            self.refuse(NoPath, [path], "folder", path)
        for path in NO_FOLDER_OF:
            self.refuse(NotThere, [path], "folder", path)
        for path in FOLDERS[1:] + FILES:
            self.refuse(There, [path], "folder", path)
        self.refuse(Crowded, ["full"], "folder", "full/i")

    def test_the_top_folder_may_be_crowded(self):
        self.done("folder", "n")
        self.refuse(Crowded, [""], "folder", "o")
        self.refuse(There, ["n"], "folder", "n")

    def test_what_goes(self):
        for path, many, gone in (
            ("c", 1, ["c"]), ("a/f", 2, ["a/f"]), ("b", 1, ["b"]), ("a/in/g", 3, ["a/in/g"]), ("a0", 1, ["a0"]),
            ("a/in", 2, ["a/in", "a/in/deep", "a/in/g"]), ("d/e/f/g/h/i", 6, ["d/e/f/g/h/i"]), ("full/c", 2, ["full/c"]),
        ):
            self.deed = self.anew()
            self.done("drop", path)
            self.assertEqual(self.paths(), [row[0] for row in listing(self.forest.get, 2) if row[0] not in gone])
            self.many_news(many)

    def test_all_goes(self):
        for name in self.names(""):
            self.done("drop", name)
        self.same(self.knot("").stuff(), ("folder", 9, 0, ()))
        self.many_news(1)

    def test_what_goes_is_refused(self):
        for path in ["", *NO_PATHS]:
            self.refuse(NoPath, [path], "drop", path)
        for path in NOT_THERE:
            self.refuse(NotThere, [path], "drop", path)
        self.done("drop", "b")
        self.refuse(NotThere, ["b"], "drop", "b")


class Putting(DeedCase):
    def test_into_a_file_that_is_not_there_yet(self):
        self.done("put", "b/n", 3, [7, 0, 9])
        self.same(self.cells("b/n"), [0, 0, 0, 7, 0, 9])
        self.same([piece[:2] + piece[3:] for piece in self.row("b/n")], [(3, 3, 0)])
        self.same(self.knot("b/n").born, 9)
        self.many_news(4)

    def test_pieces_of_eight_from_the_first_cell_on(self):
        for at, many in ((0, 1), (0, 8), (0, 9), (5, 16), (5, 17), (0, 40), (39, 1), (24, 16)):
            self.deed = self.anew()
            cells = [999999 - cell for cell in range(many)]
            self.done("put", "n", at, cells)
            self.same(self.cells("n"), [0] * at + cells)
            pieces = [self.deed.view(piece[2]) for piece in self.row("n")]
            self.assertEqual([piece[0] for piece in self.row("n")], list(range(at, at + many, 8)))
            self.assertEqual([len(piece.cells) for piece in pieces], [8] * (many // 8) + [many % 8] * (many % 8 > 0))
            self.same([(type(piece), piece.born) for piece in pieces], [(CellsKnot, 9)] * len(pieces))
            self.many_news(len(pieces) + 2)

    def test_over_old_ones(self):
        self.done("put", "a/f", 6, [70, 80, 90])
        self.same(self.cells("a/f"), [1, 2, 3, 4, 5, 6, 70, 80, 90, 10])
        self.same([piece[:2] for piece in self.row("a/f")], [(0, 6), (6, 3), (9, 1)])
        self.same([self.row("a/f")[0], self.row("a/f")[2]], [(0, 6, 20, 0), (9, 1, 21, 1)])
        self.same(self.cells("a0"), list(range(1, 11)))
        self.many_news(4)

    def test_new_pieces_whatever_the_cells_were(self):
        self.done("put", "a0", 0, list(range(1, 11)))
        self.same(self.cells("a0"), list(range(1, 11)))
        self.assertEqual([place for place in self.knot("a0").points() if place < 1000], [])
        self.many_news(4)

    def test_behind_the_end(self):
        self.done("put", "a0", 15, [5])
        self.same(self.cells("a0"), list(range(1, 11)) + [0] * 5 + [5])
        self.same([piece[:2] for piece in self.row("a0")], [(0, 8), (8, 2), (15, 1)])
        self.done("put", "a0", 10, [6])
        self.same(self.size("a0"), 16)
        self.done("put", "c9", 39, [1])
        self.same(self.cells("c9"), [0] * 39 + [1])

    def test_only_what_the_root_comes_to_is_news(self):
        self.done("put", "n", 0, [1] * 8)
        self.done("put", "n", 0, [2] * 8)
        self.same(self.cells("n"), [2] * 8)
        self.many_news(3)

    def test_into_a_full_folder(self):
        self.done("put", "full/c", 0, [1])
        self.same(self.cells("full/c"), [1])
        self.assertEqual(len(self.names("full")), 8)

    def test_the_list_is_copied(self):
        cells = [1, 2, 3]
        self.done("put", "n", 0, cells)
        self.same(cells, [1, 2, 3])
        cells[0] = 99
        self.same(self.cells("n"), [1, 2, 3])

    def test_refusals(self):
        for path in ["", *NO_PATHS]:
            self.refuse(NoPath, [path], "put", path, 0, [1])
        for cells in NO_CELLS:
            self.refuse(NoCells, [], "put", "c", 0, cells)
        for at, many in ((-1, 1), (40, 1), (39, 2), (1, 40), (10 ** 9, 3)):
            self.refuse(NoSpan, [at, many], "put", "c", at, [7] * many)
        for at in NO_NUMBERS:
            self.refuse(NoSpan, [at, 2], "put", "c", at, [7, 8])
        for path in NO_FOLDER_OF:
            self.refuse(NotThere, [path], "put", path, 0, [1])
        for path in FOLDERS[1:]:
            self.refuse(NotFile, [path], "put", path, 0, [1])
        self.refuse(Crowded, ["full"], "put", "full/i", 0, [1])

    def test_the_order_of_the_refusals(self):
        self.refuse(NoPath, ["A"], "put", "A", -1, [])
        self.refuse(NoPath, [""], "put", "", -1, [])
        self.refuse(NoCells, [], "put", "x/y", -1, [])
        self.refuse(NoCells, [], "put", "x/y", 40, [-1])
        self.refuse(NoSpan, [40, 1], "put", "x/y", 40, [1])
        self.refuse(NoSpan, [40, 1], "put", "a", 40, [1])
        self.refuse(NoSpan, [None, 1], "put", "full/i", None, [1])


class Sizes(DeedCase):
    def test_sizes(self):
        for path, size, due in (
            ("a0", 9, list(range(1, 10))), ("a0", 5, [1, 2, 3, 4, 5]), ("a0", 10, list(range(1, 11))), ("a0", 0, []),
            ("a0", 40, list(range(1, 11)) + [0] * 30), ("c9", 0, []), ("c9", 40, [0] * 40), ("c", 4, [0, 0, 0, 12]),
            ("a/in/g", 3, [0, 3, 4]),
        ):
            self.deed = self.anew()
            self.done("trim", path, size)
            self.same(self.size(path), size)
            self.same(self.cells(path), due)
            self.many_news(len(path.split("/")) + 1)

    def test_a_size_that_falls_and_grows_again(self):
        self.done("trim", "a0", 3)
        self.done("trim", "a0", 12)
        self.same(self.cells("a0"), [1, 2, 3] + [0] * 9)
        self.same(self.row("a0"), ((0, 3, 20, 0),))
        self.done("trim", "a0", 0)
        self.done("trim", "a0", 40)
        self.same([self.cells("a0"), self.row("a0")], [[0] * 40, ()])
        self.same(self.cells("a/f"), list(range(1, 11)))
        self.many_news(2)

    def test_refusals(self):
        for path in ["", *NO_PATHS]:
            self.refuse(NoPath, [path], "trim", path, 0)
        for size in [-1, 41, 10 ** 9, *NO_NUMBERS]:
            self.refuse(NoSpan, [0, size], "trim", "c", size)
        for path in NOT_THERE:
            self.refuse(NotThere, [path], "trim", path, 0)
        for path in FOLDERS[1:]:
            self.refuse(NotFile, [path], "trim", path, 0)
        self.refuse(NoPath, ["A"], "trim", "A", 41)
        self.refuse(NoSpan, [0, 41], "trim", "x", 41)
        self.refuse(NoSpan, [0, None], "trim", "a", None)


class Hollows(DeedCase):
    def test_hollowed(self):
        for at, long, row in (
            (0, 1, ((1, 7, 20, 1), (8, 2, 21, 0))), (9, 1, ((0, 8, 20, 0), (8, 1, 21, 0))), (0, 10, ()),
            (3, 2, ((0, 3, 20, 0), (5, 3, 20, 5), (8, 2, 21, 0))), (7, 2, ((0, 7, 20, 0), (9, 1, 21, 1))),
        ):
            self.deed = self.anew()
            self.done("hollow", "a/f", at, long)
            self.same(self.row("a/f"), row)
            due = list(range(1, 11))
            due[at:at + long] = [0] * long
            self.same(self.cells("a/f"), due)
            self.same(self.cells("a0"), list(range(1, 11)))
            self.many_news(3)

    def test_a_hole_hollowed(self):
        self.done("hollow", "c", 5, 35)
        self.same([self.size("c"), self.row("c")], [40, ((3, 2, 22, 1),)])
        self.many_news(2)

    def test_refusals(self):
        for path in ["", *NO_PATHS]:
            self.refuse(NoPath, [path], "hollow", path, 0, 1)
        for at, long in NO_SPANS:
            self.refuse(NoSpan, [at, long], "hollow", "c", at, long)
        for path in NOT_THERE:
            self.refuse(NotThere, [path], "hollow", path, 0, 1)
        for path in FOLDERS[1:]:
            self.refuse(NotFile, [path], "hollow", path, 0, 1)
        for path, at, long in (("c9", 0, 1), ("a0", 10, 1), ("a0", 9, 2), ("a0", 0, 11), ("a/in/g", 12, 28)):
            self.refuse(NoSpan, [at, long], "hollow", path, at, long)
        self.refuse(NoPath, ["A"], "hollow", "A", -1, 0)
        self.refuse(NoSpan, [-1, 0], "hollow", "x", -1, 0)
        self.refuse(NoSpan, [0, 41], "hollow", "a", 0, 41)


class Sharing(DeedCase):
    def test_with_another_file(self):
        self.done("share", "a0", 6, 4, "c", 10)
        self.same(self.cells("c"), [0, 0, 0, 12, 999999, 0, 0, 0, 0, 0, 7, 8, 9, 10] + [0] * 26)
        self.same(self.row("c"), ((3, 2, 22, 1), (10, 2, 20, 6), (12, 2, 21, 0)))
        self.many_news(2)

    def test_with_a_file_that_is_not_there_yet(self):
        self.done("share", "a/in/g", 3, 5, "b/n", 2)
        self.same(self.cells("b/n"), [0, 0, 5, 0, 0, 5, 6])
        self.same(self.row("b/n"), ((2, 1, 20, 4), (5, 2, 20, 4)))
        self.many_news(3)

    def test_holes_stay_holes(self):
        self.done("share", "c", 2, 4, "a0", 1)
        self.same(self.cells("a0"), [1, 0, 12, 999999, 0, 6, 7, 8, 9, 10])
        self.same(self.row("a0"), ((0, 1, 20, 0), (2, 2, 22, 1), (5, 3, 20, 5), (8, 2, 21, 0)))
        self.done("share", "c", 20, 8, "c9", 0)
        self.same([self.size("c9"), self.row("c9")], [8, ()])

    def test_within_one_file_over_one_another(self):
        self.done("share", "a0", 0, 8, "a0", 2)
        self.same(self.cells("a0"), [1, 2, 1, 2, 3, 4, 5, 6, 7, 8])
        self.same(self.row("a0"), ((0, 2, 20, 0), (2, 8, 20, 0)))
        self.many_news(2)
        self.deed = self.anew()
        self.done("share", "a0", 2, 8, "a0", 0)
        self.same(self.cells("a0"), [3, 4, 5, 6, 7, 8, 9, 10, 9, 10])

    def test_within_one_file_to_the_same_place(self):
        self.done("share", "a0", 2, 5, "a0", 2)
        self.same(self.row("a0"), ((0, 8, 20, 0), (8, 2, 21, 0)))
        self.many_news(2)

    def test_it_goes_on_from_what_lies_beside(self):
        self.done("trim", "a0", 4)
        self.done("share", "a/f", 4, 4, "a0", 4)
        self.same(self.row("a0"), ((0, 8, 20, 0),))

    def test_the_size_grows(self):
        self.done("share", "a0", 0, 10, "a/f", 30)
        self.same(self.cells("a/f"), list(range(1, 11)) + [0] * 20 + list(range(1, 11)))
        self.same(self.size("a0"), 10)
        self.many_news(3)

    def test_refusals(self):
        for path in ["", *NO_PATHS]:
            self.refuse(NoPath, [path], "share", path, 0, 1, "c", 0)
            self.refuse(NoPath, [path], "share", "c", 0, 1, path, 0)
        for at, long in NO_SPANS:
            self.refuse(NoSpan, [at, long], "share", "c", at, long, "a0", 0)
        for to_at in [-1, 40, 38, 10 ** 9, *NO_NUMBERS]:
            self.refuse(NoSpan, [to_at, 3], "share", "c", 0, 3, "a0", to_at)
        for path in NOT_THERE:
            self.refuse(NotThere, [path], "share", path, 0, 1, "c", 0)
        for path in FOLDERS[1:]:
            self.refuse(NotFile, [path], "share", path, 0, 1, "c", 0)
            self.refuse(NotFile, [path], "share", "c", 0, 1, path, 0)
        for path in NO_FOLDER_OF:
            self.refuse(NotThere, [path], "share", "c", 0, 1, path, 0)
        for path, at, long in (("c9", 0, 1), ("a0", 9, 2), ("a0", 10, 1)):
            self.refuse(NoSpan, [at, long], "share", path, at, long, "c", 0)
        self.refuse(Crowded, ["full"], "share", "c", 0, 1, "full/i", 0)

    def test_the_order_of_the_refusals(self):
        self.refuse(NoPath, ["A"], "share", "A", -1, 0, "B", -1)
        self.refuse(NoPath, ["B"], "share", "x", -1, 0, "B", -1)
        self.refuse(NoSpan, [-1, 1], "share", "x", -1, 1, "y/y", -2)
        self.refuse(NoSpan, [-2, 1], "share", "x", 0, 1, "y/y", -2)
        self.refuse(NotThere, ["x"], "share", "x", 0, 1, "y/y", 0)
        self.refuse(NotFile, ["a"], "share", "a", 0, 1, "y/y", 0)
        self.refuse(NoSpan, [0, 1], "share", "c9", 0, 1, "y/y", 0)
        self.refuse(NoSpan, [0, 1], "share", "c9", 0, 1, "full/i", 0)


class Twins(DeedCase):
    def test_the_same_knot_is_pointed_at(self):
        for path, to, many in (("c", "n", 1), ("a/in/g", "b/n", 2), ("c", "a/in/deep/n", 4), ("a/f", "a/n", 2)):
            self.deed = self.anew()
            place = self.kind(path)
            self.done("twin", path, to)
            self.same([self.kind(path), self.kind(to)], [place, place])
            self.many_news(many)

    def test_each_is_changed_by_itself(self):
        self.done("twin", "c", "n")
        self.done("put", "n", 0, [5])
        self.same([self.cells("n")[:5], self.cells("c")[:5]], [[5, 0, 0, 12, 999999], [0, 0, 0, 12, 999999]])
        self.done("trim", "c", 1)
        self.same([self.size("n"), self.size("c")], [40, 1])
        self.done("drop", "c")
        self.same(self.cells("n")[:5], [5, 0, 0, 12, 999999])

    def test_of_a_new_file(self):
        self.done("put", "b/n", 0, [1])
        self.done("twin", "b/n", "b/o")
        self.many_news(4)
        self.done("hollow", "b/n", 0, 1)
        self.same([self.cells("b/n"), self.cells("b/o")], [[0], [1]])
        self.many_news(5)

    def test_refusals(self):
        for path in ["", *NO_PATHS]:
            self.refuse(NoPath, [path], "twin", path, "n")
            self.refuse(NoPath, [path], "twin", "c", path)
        for path in NOT_THERE:
            self.refuse(NotThere, [path], "twin", path, "n")
        for path in FOLDERS[1:]:
            self.refuse(NotFile, [path], "twin", path, "n")
        for path in NO_FOLDER_OF:
            self.refuse(NotThere, [path], "twin", "c", path)
        for path in FOLDERS[1:] + FILES:
            self.refuse(There, [path], "twin", "c", path)
        self.refuse(Crowded, ["full"], "twin", "c", "full/i")
        self.refuse(Crowded, ["full"], "twin", "full/a", "full/i")

    def test_the_order_of_the_refusals(self):
        self.refuse(NoPath, ["A"], "twin", "A", "B")
        self.refuse(NoPath, ["B"], "twin", "x", "B")
        self.refuse(NotThere, ["x"], "twin", "x", "y/y")
        self.refuse(NotFile, ["a"], "twin", "a", "y/y")
        self.refuse(NotFile, ["a"], "twin", "a", "c")


class Moves(DeedCase):
    def test_moves(self):
        for path, to, many in (
            ("c", "n", 1), ("c", "b/n", 2), ("a/f", "n", 2), ("a/f", "a/n", 2), ("a/f", "a/in/n", 3), ("b", "a/in/b", 3),
            ("a/in", "b/in", 3), ("a/in/g", "a/g", 3), ("a", "b/a", 2), ("b", "d/e/f/g/h/b", 6), ("a/in", "d/e/f/g/x", 6),
            ("full/a", "full/z", 2), ("d/e", "e", 2), ("a0", "a1", 1),
        ):
            self.deed = self.anew()
            place = self.kind(path)
            before = self.paths()
            self.done("move", path, to)
            self.same(self.kind(to), place)
            gone = [one for one in before if one == path or one.startswith(path + "/")]
            come = [to + one[len(path):] for one in gone]
            self.assertEqual(self.paths(), sorted([one for one in before if one not in gone] + come))
            self.many_news(many)

    def test_within_a_full_folder(self):
        self.done("folder", "n")
        self.assertEqual(len(self.names("")), 8)
        self.done("move", "n", "o")
        self.done("move", "full/h", "full/g1")
        self.assertEqual(self.names("full"), ["a", "b", "c", "d", "e", "f", "g", "g1"])
        self.refuse(Crowded, [""], "move", "a/f", "p")
        self.refuse(Crowded, ["full"], "move", "o", "full/i")
        self.done("move", "o", "b/o")
        self.done("move", "b/o", "p")
        self.refuse(Crowded, [""], "move", "a/in", "q")

    def test_back_again(self):
        self.done("move", "a", "b/a")
        self.done("move", "b/a", "a")
        self.same(self.kind("a"), ("folder", 3))
        self.many_news(2)

    def test_how_deep(self):
        self.refuse(TooDeep, ["d/e/f/g/h/a"], "move", "a", "d/e/f/g/h/a")
        self.refuse(TooDeep, ["d/e/f/g/a"], "move", "a", "d/e/f/g/a")
        self.done("move", "a", "d/e/f/a")
        self.assertIn("d/e/f/a/in/deep", self.paths())
        self.deed = self.anew()
        self.done("move", "c", "d/e/f/g/h/c")
        self.refuse(TooDeep, ["b/d"], "move", "d", "b/d")
        self.done("move", "d", "d1")

    def test_to_itself_and_beneath(self):
        for path in FOLDERS[1:] + FILES:
            self.refuse(Within, [path], "move", path, path)
        for path, to in (("a", "a/x"), ("a", "a/in"), ("a", "a/in/deep/x"), ("a0", "a0/x"), ("b", "b/x/y"), ("a", "a/f/x")):
            self.refuse(Within, [to], "move", path, to)
        self.done("move", "a", "ab")
        self.done("move", "ab", "a")

    def test_refusals(self):
        for path in ["", *NO_PATHS]:
            self.refuse(NoPath, [path], "move", path, "n")
            self.refuse(NoPath, [path], "move", "c", path)
        for path in NOT_THERE:
            self.refuse(NotThere, [path], "move", path, "n")
        for path in NO_FOLDER_OF:
            self.refuse(NotThere, [path], "move", "full", path)
        for path in FOLDERS[1:4] + FILES:
            self.refuse(There, [path], "move", "b", path)
        self.refuse(There, ["a"], "move", "a/in", "a")
        self.refuse(Crowded, ["full"], "move", "b", "full/i")

    def test_the_order_of_the_refusals(self):
        self.refuse(NoPath, ["A"], "move", "A", "B")
        self.refuse(NoPath, ["B"], "move", "x", "B")
        self.refuse(NotThere, ["x"], "move", "x", "x")
        self.refuse(NotThere, ["x"], "move", "x", "x/y")
        self.refuse(Within, ["a/x/y"], "move", "a", "a/x/y")
        self.refuse(Within, ["full/a"], "move", "full", "full/a")
        self.refuse(There, ["full/a"], "move", "a", "full/a")
        self.refuse(There, ["d/e/f/g/h"], "move", "a", "d/e/f/g/h")
        for name in "abcdefg":
            self.done("put", "d/e/f/g/h/" + name, 0, [1])
        self.refuse(Crowded, ["d/e/f/g/h"], "move", "a", "d/e/f/g/h/x")
        self.refuse(NotThere, ["d/e/x/g/h/i"], "move", "a", "d/e/x/g/h/i")


class Limits(DeedCase):
    def test_limits_set_and_taken_away(self):
        for path, many in (("", 1), ("a", 2), ("a/in/deep", 4), ("d/e/f/g/h/i", 7)):
            for limit in (1, 999, 0):
                self.deed = self.anew()
                self.done("set_limit", path, limit)
                self.same(self.knot(path).limit, limit)
                self.many_news(many)
                self.assertEqual(self.paths(), [row[0] for row in listing(self.forest.get, 2)])
        self.done("set_limit", "full", 0)
        self.same(self.knot("full").limit, 0)

    def test_asked_only_when_it_is_asked_for(self):
        self.done("need_limits")
        self.done("set_limit", "a", 7)
        self.done("need_limits")
        self.done("set_limit", "a", 6)
        self.refuse(Over, ["a", 7], "need_limits")
        self.done("set_limit", "a", 7)
        self.done("put", "a/n", 0, [1])
        self.refuse(Over, ["a", 9], "need_limits")
        self.done("set_limit", "a", 0)
        self.done("need_limits")

    def test_the_least_path_of_several(self):
        self.done("set_limit", "b", 1)
        self.done("set_limit", "a/in", 3)
        self.done("folder", "b/n")
        self.refuse(Over, ["a/in", 4], "need_limits")
        self.done("set_limit", "", 19)
        self.refuse(Over, ["", 20], "need_limits")
        self.done("set_limit", "", 20)
        self.done("set_limit", "a/in", 4)
        self.refuse(Over, ["b", 2], "need_limits")

    def test_what_is_shared_weighs_once(self):
        self.done("twin", "full/a", "b/x")
        self.done("twin", "full/b", "b/y")
        self.done("set_limit", "b", 2)
        self.done("need_limits")
        self.done("set_limit", "full", 2)
        self.done("need_limits")
        self.done("trim", "full/a", 1)
        self.refuse(Over, ["full", 3], "need_limits")

    def test_refusals(self):
        for path in NO_PATHS:
            self.refuse(NoPath, [path], "set_limit", path, 1)
        for limit in [-1, 1000, 10 ** 9, *NO_NUMBERS]:
            self.refuse(NoSpan, [0, limit], "set_limit", "a", limit)
            self.refuse(NoSpan, [0, limit], "set_limit", "", limit)
        for path in NOT_THERE:
            self.refuse(NotThere, [path], "set_limit", path, 1)
        for path in FILES:
            self.refuse(NotFolder, [path], "set_limit", path, 1)
        self.refuse(NoPath, ["A"], "set_limit", "A", -1)
        self.refuse(NoSpan, [0, -1], "set_limit", "x", -1)
        self.refuse(NoSpan, [0, None], "set_limit", "c", None)


class Settling(DeedCase):
    def test_settled(self):
        self.done("put", "b/n", 0, [1] * 9)
        told = self.deed.settled([50, 41, 42, 49, 44, 45])
        pieces, root = told
        self.assertEqual([place for place, stuff in pieces], [50, 41, 42, 49, 44])
        self.same(root, 44)
        stuffs = dict(pieces)
        self.same(stuffs[42], ("file", 9, 9, ((0, 8, 50, 0), (8, 1, 41, 0))))
        self.same(stuffs[49], ("folder", 9, 0, (("n", "file", 42),)))
        self.same([stuffs[50], stuffs[41]], [("cells", 9, (1,) * 8), ("cells", 9, (1,))])
        self.same(dict((name, (kind, place)) for name, kind, place in stuffs[44][3])["b"], ("folder", 49))
        self.assertTrue(all(is_knot(stuff) for place, stuff in pieces))

    def test_the_deed_goes_on_as_before(self):
        self.done("folder", "b/n")
        before = self.state()
        places = [52, 51, 50]
        first = self.deed.settled(places)
        self.same(places, [52, 51, 50])
        self.told_anew(lambda: self.deed.settled(places)[0])
        self.same(self.deed.settled(places), first)
        self.same(self.state(), before)
        self.done("put", "b/n/o", 0, [1])
        self.assertEqual(len(self.deed.settled([50, 51, 52, 53, 54])[0]), 5)

    def test_settled_reads_as_the_deed(self):
        for name, *handed in (
            ("folder", "b/n"), ("put", "b/n/o", 5, list(range(20))), ("share", "b/n/o", 3, 9, "a0", 6), ("twin", "a0", "b/p"),
            ("move", "a", "b/q"), ("drop", "c9"), ("set_limit", "b/q", 60), ("hollow", "b/n/o", 6, 3), ("trim", "c", 6),
        ):
            self.done(name, *handed)
        places = [place for place in range(599, 60, -7)]
        pieces, root = self.deed.settled(places)
        floor = dict(self.forest)
        for place, stuff in pieces:
            self.assertTrue(is_knot(stuff))
            made = {"cells": CellsKnot, "file": FileKnot, "folder": FolderKnot}[stuff[0]](*stuff[1:])
            self.assertEqual([point for point in made.points() if point not in floor], [])
            self.assertNotIn(place, floor)
            floor[place] = made
        self.assertEqual([row[:2] for row in listing(floor.get, root)],
                         [row[:2] for row in listing(self.deed.view, self.deed.root)])
        for path, kind, place in listing(floor.get, root):
            if kind == "file":
                self.same(cells_at(floor.get, root, path), self.cells(path))


if __name__ == "__main__":
    unittest.main()
