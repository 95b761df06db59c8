"""Promises 33 to 38, with 3 and 5: trees by a look and a root."""

import random
import unittest

from clonewood.errors import NoPath, NotFile, NotFolder, NotThere
from clonewood.knots import CellsKnot, FileKnot, FolderKnot
from clonewood.trees import cells_at, height, listing, names_at, over, reach, seek, size_at, weight
from helper import NO_PATHS, WoodCase, folder, small_forest

ALL = [2, 3, 4, 5, 6, 10, 11, 12, 13, 20, 21, 22]
LISTING = [
    ("a", "folder", 3), ("a/f", "file", 10), ("a/in", "folder", 4), ("a/in/deep", "folder", 5), ("a/in/g", "file", 11),
    ("a0", "file", 10), ("b", "folder", 6), ("c", "file", 12), ("c9", "file", 13),
]
NOT_THERE = ["x", "a/x", "a/in/x", "a/in/deep/x", "b/a", "a/f/g", "a0/a", "c/c/c", "f", "in", "g", "a/a", "a1", "c99"]


class TreeCase(WoodCase):
    def setUp(self):
        self.forest = small_forest()
        self.look = self.forest.__getitem__

    def tearDown(self):
        kept = small_forest()
        self.assertEqual(self.forest.keys(), kept.keys())
        for place, knot in self.forest.items():
            self.same(knot.stuff(), kept[place].stuff())

    def refuse_paths(self, call):
        for path in NO_PATHS:
            self.refused(NoPath, [path], call, self.look, 2, path)
        for path in NOT_THERE:
            self.refused(NotThere, [path], call, self.look, 2, path)


class Seeking(TreeCase):
    def test_the_top_folder_itself(self):
        self.same(seek(self.look, 2, ""), ("folder", 2))
        self.same(seek(self.look, 4, ""), ("folder", 4))

    def test_paths(self):
        for path, kind, place in LISTING:
            with self.subTest(path):
                self.same(seek(self.look, 2, path), (kind, place))
        self.same(seek(self.look, 3, "in/g"), ("file", 11))

    def test_no_paths_and_what_is_not_there(self):
        self.refuse_paths(seek)

    def test_six_words(self):
        forest = {place: folder({"a": ("folder", place + 1)}) for place in range(2, 8)}
        forest[8] = folder({})
        self.same(seek(forest.get, 2, "a/a/a/a/a/a"), ("folder", 8))
        self.same(height(forest.get, 2), 6)
        self.refused(NoPath, ["a/a/a/a/a/a/a"], seek, forest.get, 2, "a/a/a/a/a/a/a")


class Reaching(TreeCase):
    def test_reach(self):
        for places, due in (
            ([], []), ([2], ALL), ([20], [20]), ([13], [13]), ([6], [6]), ([12], [12, 22]), ([10], [10, 20, 21]),
            ([11], [11, 20]), ([3], [3, 4, 5, 10, 11, 20, 21]), ([22, 6], [6, 22]), ([12, 22, 12], [12, 22]),
            ([11, 10], [10, 11, 20, 21]), ([4, 3, 2], ALL),
        ):
            kept = list(places)
            with self.subTest(places):
                self.same(reach(self.look, places), due)
                self.told_anew(lambda: reach(self.look, places))
                self.same(places, kept)

    def test_weights_count_what_is_shared_once(self):
        for place, due in ((2, 12), (3, 7), (4, 4), (5, 1), (6, 1), (10, 3), (11, 2), (12, 2), (13, 1), (21, 1)):
            with self.subTest(place):
                self.same(weight(self.look, place), due)


class Listing(TreeCase):
    def test_listing_in_the_order_of_texts(self):
        self.same(listing(self.look, 2), LISTING)
        self.assertEqual([row[0] for row in LISTING], sorted(row[0] for row in LISTING))
        self.told_anew(lambda: listing(self.look, 2))

    def test_listing_of_a_part_and_of_nothing(self):
        self.same(listing(self.look, 4), [("deep", "folder", 5), ("g", "file", 11)])
        self.same(listing(self.look, 6), [])
        self.told_anew(lambda: listing(self.look, 6))

    def test_heights(self):
        for place, due in ((2, 3), (3, 2), (4, 1), (5, 0), (6, 0), (10, 0), (13, 0)):
            with self.subTest(place):
                self.same(height(self.look, place), due)

    def test_a_folder_of_files_alone(self):
        forest = {2: folder({"a": ("file", 3), "b": ("file", 3)}), 3: FileKnot(1, 1, ((0, 1, 4, 0),)), 4: CellsKnot(1, (5,))}
        self.same(height(forest.get, 2), 1)
        self.same(weight(forest.get, 2), 3)
        self.same(listing(forest.get, 2), [("a", "file", 3), ("b", "file", 3)])


class Limits(TreeCase):
    def over_with(self, limits):
        forest = small_forest()
        for place, limit in limits.items():
            forest[place] = forest[place].with_limit(1, limit)
        return over(forest.get, 2)

    def test_no_limits(self):
        self.assertIsNone(over(self.look, 2))

    def test_at_the_limit_and_above_it(self):
        for place, path, heavy in ((2, "", 12), (3, "a", 7), (4, "a/in", 4)):
            with self.subTest(path):
                self.assertIsNone(self.over_with({place: heavy}))
                self.assertIsNone(self.over_with({place: heavy + 1}))
                self.assertIsNone(self.over_with({place: 0}))
                self.same(self.over_with({place: heavy - 1}), (path, heavy))
                self.same(self.over_with({place: 1}), (path, heavy))

    def test_an_empty_folder_weighs_one(self):
        self.assertIsNone(self.over_with({6: 1, 5: 1}))

    def test_the_least_path_of_several(self):
        self.same(self.over_with({2: 1, 3: 1, 4: 1}), ("", 12))
        self.same(self.over_with({2: 12, 3: 6, 4: 3}), ("a", 7))
        self.same(self.over_with({2: 12, 3: 7, 4: 3, 6: 1}), ("a/in", 4))

    def test_paths_in_the_order_of_texts(self):
        forest = {
            2: folder({"a": ("folder", 3), "a0": ("folder", 4)}),
            3: folder({"z": ("folder", 5)}),
            4: folder({"y": ("folder", 6)}, limit=1),
            5: folder({"x": ("folder", 7)}, limit=1),
            6: folder({}), 7: folder({}),
        }
        self.same(over(forest.get, 2), ("a/z", 2))


class Readings(TreeCase):
    def test_names(self):
        for path, due in (("", ["a", "a0", "b", "c", "c9"]), ("a", ["f", "in"]), ("a/in", ["deep", "g"]), ("b", [])):
            with self.subTest(path):
                self.same(names_at(self.look, 2, path), due)
                self.told_anew(lambda: names_at(self.look, 2, path))
        self.refuse_paths(names_at)
        for path in ("a0", "a/f", "a/in/g", "c9"):
            self.refused(NotFolder, [path], names_at, self.look, 2, path)

    def test_sizes(self):
        for path, due in (("a/f", 10), ("a0", 10), ("a/in/g", 12), ("c", 40), ("c9", 0)):
            with self.subTest(path):
                self.same(size_at(self.look, 2, path), due)
        self.refuse_paths(size_at)
        for path in ("", "a", "a/in", "b"):
            self.refused(NotFile, [path], size_at, self.look, 2, path)

    def test_cells(self):
        for path, due in (
            ("a/f", list(range(1, 11))), ("a0", list(range(1, 11))), ("a/in/g", [0, 3, 4, 5, 0, 0, 5, 6, 7, 8, 0, 0]),
            ("c", [0, 0, 0, 12, 999999] + [0] * 35), ("c9", []),
        ):
            with self.subTest(path):
                self.same(cells_at(self.look, 2, path), due)
                self.told_anew(lambda: cells_at(self.look, 2, path))
        self.refuse_paths(cells_at)
        for path in ("", "a", "a/in", "b"):
            self.refused(NotFile, [path], cells_at, self.look, 2, path)


class AnyTree(TreeCase):
    def grow(self, chance, forest, files, told, path):
        """A folder with whatever chance hangs in it; told is what the tree has, by paths."""
        entries = {}
        deep = len(path.split("/")) if path else 0
        for name in chance.sample(["a", "a0", "b", "b9", "0", "zz", "ab", "box"], chance.randint(0, 8)):
            below = f"{path}/{name}" if path else name
            if chance.random() < 0.4 and deep < 5:
                entries[name] = ("folder", self.grow(chance, forest, files, told, below))
            else:
                entries[name] = ("file", chance.choice(files))
            told[below] = entries[name]
        place = 100 + len(forest)
        forest[place] = folder(entries, limit=chance.choice((0, 0, chance.randint(1, 40))))
        return place

    def points(self, knot):
        if isinstance(knot, FolderKnot):
            return {place for name, kind, place in knot.entries}
        return {place for at, long, place, skip in knot.row} if isinstance(knot, FileKnot) else set()

    def closure(self, forest, place):
        found = {place}
        while True:
            more = found.union(*(self.points(forest[one]) for one in found))
            if more == found:
                return found
            found = more

    def test_any_tree(self):
        chance = random.Random(33)
        for again in range(60):
            forest = {place: CellsKnot(1, (place, 1, 2, 3, 4, 5, 6, 7)) for place in range(20, 30)}
            for place in range(30, 38):
                row = tuple((at, chance.randint(1, 4), chance.randint(20, 29), chance.randint(0, 4)) for at in (0, 6, 11))
                forest[place] = FileKnot(1, 20, row)
            told = {}
            root = self.grow(chance, forest, range(30, 38), told, "")
            look = forest.get
            self.same(listing(look, root), [(path, *told[path]) for path in sorted(told)])
            self.same(reach(look, [root]), sorted(self.closure(forest, root)))
            self.same(height(look, root), max([len(path.split("/")) for path in told], default=0))
            heavy = []
            for path, (kind, place) in {"": ("folder", root), **told}.items():
                self.same(seek(look, root, path), (kind, place))
                self.same(weight(look, place), len(self.closure(forest, place)))
                if kind == "folder" and 0 < forest[place].limit < len(self.closure(forest, place)):
                    heavy.append((path, len(self.closure(forest, place))))
            self.assertEqual(over(look, root), min(heavy, default=None))


if __name__ == "__main__":
    unittest.main()
