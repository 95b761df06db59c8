"""Promises 80 and 81, with 3: the changes from one tree, or from none, to another one."""

import random
import unittest

from clonewood.changes import changes
from clonewood.growing import Deed
from clonewood.knots import CellsKnot, FileKnot, FolderKnot
from helper import WoodCase, folder, small_forest
from model import Paths, Refused, Requests, above, due_changes


class Forest:
    """Trees laid out from readings: dicts in which a path has None for a folder, and a list of cells for a file."""

    def __init__(self):
        self.knots = {}

    def look(self, place):
        return self.knots[place]

    def new(self, knot):
        place = 2 + len(self.knots)
        self.knots[place] = knot
        return place

    def file(self, cells, holes=False):
        """Cells that are 0 are a hole, or lie in pieces as the others do."""
        row = []
        for at, cell in enumerate(cells):
            if cell or not holes:
                row.append((at, 1, self.new(CellsKnot(1, (7, cell))), 1))
        return self.new(FileKnot(1, len(cells), row))

    def tree(self, reading, path="", holes=False):
        entries = {}
        for one in reading:
            if one and above(one) == path:
                kind = "folder" if reading[one] is None else "file"
                lay = self.tree(reading, one, holes) if kind == "folder" else self.file(reading[one], holes)
                entries[one.rpartition("/")[2]] = (kind, lay)
        return self.new(folder(entries))


def done(reading, told):
    """The changes done in their order, by the words of promise 80; refused by an assertion where one can't be done."""
    tree = {path: cells if cells is None else list(cells) for path, cells in reading.items()}
    for change in told:
        name, path, *more = change
        if name == "gone":
            assert path in tree
            tree = {one: tree[one] for one in tree if one != path and not one.startswith(path + "/")}
        elif name in ("folder", "file"):
            assert path not in tree and tree[above(path)] is None
            tree[path] = None if name == "folder" else [0] * more[0]
        elif name == "size":
            tree[path] = (tree[path] + [0] * 40)[:more[0]]
        else:
            at, cells = more
            assert 1 <= len(cells) and at + len(cells) <= len(tree[path])
            tree[path][at:at + len(cells)] = cells
        assert len([one for one in tree if one and above(one) == above(path)]) <= 8
    return tree


class Changes(WoodCase):
    def told(self, one, other, holes=False):
        forest = Forest()
        other_root = forest.tree(other, holes=holes)
        one_root = None if one is None else forest.tree(one)
        found = changes(forest.look, one_root, other_root)
        self.told_anew(lambda: changes(forest.look, one_root, other_root))
        self.assertEqual(done(one or {"": None}, found), other)
        self.same(found, due_changes(one or {"": None}, other))
        return found

    def both(self, one, other, due):
        for holes in (False, True):
            self.same(self.told({"": None, **one}, {"": None, **other}, holes), due)

    def test_each_kind(self):
        self.both({}, {}, [])
        self.both({"a": None}, {}, [("gone", "a")])
        self.both({}, {"a": None}, [("folder", "a")])
        self.both({}, {"a": []}, [("file", "a", 0)])
        self.both({}, {"a": [0, 0]}, [("file", "a", 2)])
        self.both({"a": [1]}, {"a": [1, 0]}, [("size", "a", 2)])
        self.both({"a": [1, 2]}, {"a": [1]}, [("size", "a", 1)])
        self.both({"a": [1, 2]}, {"a": [1, 3]}, [("cells", "a", 1, (3,))])
        self.both({"a": [1, 2]}, {"a": [1, 2]}, [])

    def test_names_rise_and_what_goes_goes_first(self):
        self.both(
            {"b": None, "b/x": None, "d": [1], "f": None, "9": []}, {"a": None, "c": [], "e": None, "f": None, "0": [2]},
            [("gone", "9"), ("gone", "b"), ("gone", "d"), ("file", "0", 1), ("cells", "0", 0, (2,)), ("folder", "a"),
             ("file", "c", 0), ("folder", "e")])

    def test_a_folder_in_the_place_of_a_file_and_back(self):
        self.both({"a": [1, 2], "b": None}, {"a": None, "a/c": [3], "b": None},
                  [("gone", "a"), ("folder", "a"), ("file", "a/c", 1), ("cells", "a/c", 0, (3,))])
        self.both({"a": None, "a/c": [3], "a/d": None}, {"a": [0, 2]},
                  [("gone", "a"), ("file", "a", 2), ("cells", "a", 1, (2,))])

    def test_folder_by_folder(self):
        self.both(
            {"a": None, "a/b": None, "a/b/c": [1], "a/d": [5], "e": None, "e/z": None},
            {"a": None, "a/b": None, "a/b/c": [2], "a/b/0": None, "a/a": None, "a/a/a": None, "e": None, "e/y": None},
            [("gone", "a/d"), ("folder", "a/a"), ("folder", "a/a/a"), ("folder", "a/b/0"), ("cells", "a/b/c", 0, (2,)),
             ("gone", "e/z"), ("folder", "e/y")])

    def test_all_that_comes_with_a_folder(self):
        self.both({}, {"a": None, "a/b": None, "a/b/c": [0, 1], "a/a": [], "a0": None},
                  [("folder", "a"), ("file", "a/a", 0), ("folder", "a/b"), ("file", "a/b/c", 2), ("cells", "a/b/c", 1, (1,)),
                   ("folder", "a0")])

    def test_sizes_and_cells(self):
        self.both({"f": [1, 2, 3]}, {"f": [1, 2, 3, 0, 0, 4, 5]}, [("size", "f", 7), ("cells", "f", 5, (4, 5))])
        self.both({"f": [1, 2, 3]}, {"f": [9, 2]}, [("size", "f", 2), ("cells", "f", 0, (9,))])
        self.both({"f": [1, 2, 3]}, {"f": []}, [("size", "f", 0)])
        self.both({"f": []}, {"f": [0] * 40}, [("size", "f", 40)])
        self.both({"f": []}, {"f": [5] * 40}, [("size", "f", 40), ("cells", "f", 0, (5,) * 40)])
        self.both({"f": [1] * 40}, {"f": [2] + [1] * 38 + [2]}, [("cells", "f", 0, (2,)), ("cells", "f", 39, (2,))])

    def test_runs(self):
        self.both({"f": [1, 2, 3, 4, 5, 6]}, {"f": [0, 0, 3, 7, 5, 0]},
                  [("cells", "f", 0, (0, 0)), ("cells", "f", 3, (7,)), ("cells", "f", 5, (0,))])
        self.both({"f": [0, 0, 0]}, {"f": [0, 1, 0]}, [("cells", "f", 1, (1,))])
        self.both({}, {"f": [1, 0, 0, 2, 3, 0]},
                  [("file", "f", 6), ("cells", "f", 0, (1,)), ("cells", "f", 3, (2, 3))])
        # A run goes on over the end of the elder file, where a cell is not 0.
        self.both({"f": [1, 2]}, {"f": [1, 3, 4, 0, 5]},
                  [("size", "f", 5), ("cells", "f", 1, (3, 4)), ("cells", "f", 4, (5,))])

    def test_from_no_tree(self):
        other = {"": None, "a": None, "a/b": [1], "c": [0, 0, 2]}
        due = [("folder", "a"), ("file", "a/b", 1), ("cells", "a/b", 0, (1,)), ("file", "c", 3), ("cells", "c", 2, (2,))]
        self.same(self.told(None, other), due)
        self.same(self.told({"": None}, other), due)
        self.same(self.told(None, {"": None}), [])

    def test_the_same_place_in_both(self):
        asked = []
        forest = {
            2: folder({"a": ("folder", 4), "f": ("file", 5), "g": ("file", 6)}),
            3: folder({"a": ("folder", 4), "f": ("file", 5), "g": ("file", 7)}),
            4: folder({"x": ("file", 5)}), 5: FileKnot(1, 1, ((0, 1, 8, 0),)), 6: FileKnot(1, 1, ((0, 1, 8, 0),)),
            7: FileKnot(2, 1, ((0, 1, 8, 0),)), 8: CellsKnot(1, (5,)),
        }

        def look(place):
            asked.append(place)
            return forest[place]

        self.same(changes(look, 2, 3), [])
        self.same(changes(look, 2, 2), [])
        self.assertNotIn(4, asked)
        self.assertNotIn(5, asked)

    def test_limits_and_births_are_not_among_them(self):
        forest = {2: FolderKnot(1, 0, (("a", "folder", 4),)), 3: FolderKnot(9, 50, (("a", "folder", 5),)),
                  4: FolderKnot(1, 7, ()), 5: FolderKnot(3, 0, ())}
        self.same(changes(forest.__getitem__, 2, 3), [])

    def test_a_forest(self):
        forest = small_forest()
        before = {place: knot.stuff() for place, knot in forest.items()}
        self.same(changes(forest.__getitem__, 4, 3), [
            ("gone", "deep"), ("gone", "g"), ("file", "f", 10), ("cells", "f", 0, tuple(range(1, 11))), ("folder", "in"),
            ("folder", "in/deep"), ("file", "in/g", 12), ("cells", "in/g", 1, (3, 4, 5)), ("cells", "in/g", 6, (5, 6, 7, 8))])
        self.assertEqual({place: knot.stuff() for place, knot in forest.items()}, before)

    def test_full_folders(self):
        one = {"": None, **{f"a{at}": [at] for at in range(8)}}
        other = {"": None, **{f"b{at}": None for at in range(8)}}
        self.same(len(self.told(one, other)), 16)
        mixed = {"": None, **{f"a{at}": None if at % 2 else [1] for at in range(8)}}
        self.told(one, mixed)
        self.told(mixed, other)

    def test_any_trees(self):
        for seed in range(30):
            chance = random.Random(seed)
            model = Paths()
            forest = {2: FolderKnot(1, 0, ())}
            root = 2
            roots = [(2, model.reading())]
            for now in range(2, 40):
                deed = Deed(forest.__getitem__, root, now)
                for again in range(chance.randint(1, 4)):
                    name, *handed = Requests(chance, model).request()
                    try:
                        getattr(model, name)(*handed)
                        getattr(deed, name)(*handed)
                    except Refused:
                        pass
                pieces, root = deed.settled([place + len(forest) + 2 for place in range(len(deed.news()))])
                for place, stuff in pieces:
                    forest[place] = self.knot(stuff)
                roots.append((root, model.reading()))
                self.held(forest, *chance.choice(roots), *roots[-1])
                self.held(forest, *chance.choice(roots), *chance.choice(roots))
                self.held(forest, None, {"": None}, *roots[-1])

    def knot(self, stuff):
        kinds = {"cells": CellsKnot, "file": FileKnot, "folder": FolderKnot}
        return kinds[stuff[0]](*stuff[1:])

    def held(self, forest, one, reading, other, due):
        found = changes(forest.__getitem__, one, other)
        self.same(found, due_changes(reading, due))
        self.assertEqual(done(reading, found), due)


if __name__ == "__main__":
    unittest.main()
