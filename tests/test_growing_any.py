"""Promises 50 to 59: many deeds by chance, held against a tree of paths that is reckoned from the words alone."""

import random
import re
import unittest

from clonewood.errors import (
    Crowded, NoCells, NoPath, NoSpan, NotFile, NotFolder, NotThere, Over, There, TooDeep, Within, WoodError,
)
from clonewood.growing import Deed
from clonewood.knots import FolderKnot, is_knot, knot_of
from helper import WoodCase, is_tidy, spread

PATH = re.compile(r"([a-z0-9]{1,8}(/[a-z0-9]{1,8}){0,5})?")
NAMES = ["a", "a0", "b", "0", "zz"]


class Refused(Exception):
    def __init__(self, error, *fields):
        self.told = (error, list(fields))


def refuse_if(due, error, *fields):
    if due:
        raise Refused(error, *fields)


def above(path):
    return path.rpartition("/")[0]


def ways(*paths):
    """All folders that lie on the way of one of the paths, above their last names."""
    found = set()
    for path in paths:
        while path:
            path = above(path)
            found.add(path)
    return found


class Paths:
    """A tree as a dict: the path of a folder has its limit, that of a file a list of cells.

    A cell is None for a hole, or (put, at, value): which of all puts brought it, the how manieth it was there.
    """

    def __init__(self):
        self.tree = {"": 0}
        self.puts = 0

    def kids(self, path):
        return [one for one in self.tree if one and above(one) == path]

    def is_file(self, path):
        return isinstance(self.tree.get(path), list)

    def is_folder(self, path):
        return path in self.tree and not self.is_file(path)

    def paths(self, *paths):
        for path in paths:
            refuse_if(not path or not PATH.fullmatch(path), NoPath, path)

    def span(self, at, long):
        refuse_if(at < 0 or long < 1 or at + long > 40, NoSpan, at, long)

    def old_file(self, path):
        refuse_if(path not in self.tree, NotThere, path)
        refuse_if(not self.is_file(path), NotFile, path)
        return self.tree[path]

    def spot(self, path, leaving=None):
        refuse_if(not self.is_folder(above(path)), NotThere, path)
        refuse_if(path in self.tree, There, path)
        refuse_if(len([kid for kid in self.kids(above(path)) if kid != leaving]) >= 8, Crowded, above(path))

    def any_file(self, path):
        if path not in self.tree:
            self.spot(path)
            return []
        return self.old_file(path)

    def lay(self, path, cells, at, new):
        cells = cells + [None] * (at + len(new) - len(cells))
        self.tree[path] = cells[:at] + new + cells[at + len(new):]

    def folder(self, path):
        self.paths(path)
        self.spot(path)
        self.tree[path] = 0
        return 1 + len(ways(path))

    def drop(self, path):
        self.paths(path)
        refuse_if(path not in self.tree, NotThere, path)
        for one in self.below(path):
            self.tree.pop(one)
        return len(ways(path))

    def below(self, path):
        return [one for one in self.tree if one == path or one.startswith(path + "/")]

    def put(self, path, at, cells):
        self.paths(path)
        refuse_if(not 1 <= len(cells) <= 40 or not all(0 <= cell <= 999999 for cell in cells), NoCells)
        self.span(at, len(cells))
        old = self.any_file(path)
        self.puts += 1
        self.lay(path, old, at, [(self.puts, index, cell) for index, cell in enumerate(cells)])
        return (len(cells) + 7) // 8 + 1 + len(ways(path))

    def trim(self, path, size):
        self.paths(path)
        refuse_if(not 0 <= size <= 40, NoSpan, 0, size)
        self.tree[path] = (self.old_file(path) + [None] * 40)[:size]
        return 1 + len(ways(path))

    def hollow(self, path, at, long):
        self.paths(path)
        self.span(at, long)
        refuse_if(at + long > len(self.old_file(path)), NoSpan, at, long)
        self.lay(path, self.tree[path], at, [None] * long)
        return 1 + len(ways(path))

    def share(self, path, at, long, to, to_at):
        self.paths(path, to)
        self.span(at, long)
        self.span(to_at, long)
        cells = self.old_file(path)
        refuse_if(at + long > len(cells), NoSpan, at, long)
        self.lay(to, self.any_file(to), to_at, cells[at:at + long])
        return 1 + len(ways(to))

    def twin(self, path, to):
        self.paths(path, to)
        cells = self.old_file(path)
        self.spot(to)
        self.tree[to] = list(cells)
        return len(ways(to))

    def move(self, path, to):
        self.paths(path, to)
        refuse_if(path not in self.tree, NotThere, path)
        refuse_if(to == path or to.startswith(path + "/"), Within, to)
        self.spot(to, path)
        moved = {to + one[len(path):]: self.tree[one] for one in self.below(path)}
        refuse_if(any(one.count("/") > 5 for one in moved), TooDeep, to)
        for one in self.below(path):
            self.tree.pop(one)
        self.tree.update(moved)
        return len(ways(path, to))

    def set_limit(self, path, many):
        refuse_if(not PATH.fullmatch(path), NoPath, path)
        refuse_if(not 0 <= many <= 999, NoSpan, 0, many)
        refuse_if(path not in self.tree, NotThere, path)
        refuse_if(self.is_file(path), NotFolder, path)
        self.tree[path] = many
        return 1 + len(ways(path))


class AnyDeeds(WoodCase):
    def path(self):
        if self.chance.random() < 0.03:
            return self.chance.choice(["", "A", "a/", "a/b/c/d/e/f/g"])
        if self.chance.random() < 0.65:
            return self.chance.choice(sorted(self.model.tree))
        return "/".join(self.chance.choice(NAMES) for deep in range(self.chance.choice((1, 1, 2, 2, 3, 4, 6))))

    def new_path(self):
        folders = [path for path in sorted(self.model.tree) if self.model.is_folder(path)]
        where = self.chance.choice((
            self.chance.choice(folders), max(self.chance.choices(folders, k=3), key=len),
            max(folders, key=lambda path: len(self.model.kids(path))),
        ))
        name = self.chance.choice(NAMES + ["c", "d", "e", "f", "g"])
        return f"{where}/{name}" if where else name

    def file_path(self):
        files = [path for path in sorted(self.model.tree) if self.model.is_file(path)]
        return self.chance.choice(files) if files and self.chance.random() < 0.8 else self.path()

    def number(self, low, high):
        return self.chance.choice((low - 1, low, high, high + 1)) if self.chance.random() < 0.1 else (
            self.chance.randint(low, high))

    def span(self):
        at = self.number(0, self.chance.choice((5, 35)))
        return at, self.number(1, max(1, min(40 - at, 12)))

    def request(self):
        chance = self.chance
        either = chance.choice((self.path, self.new_path, self.new_path))
        name = chance.choice((
            "folder", "folder", "folder", "put", "put", "put", "trim", "hollow", "share", "share", "twin", "move", "move",
            "move", "drop", "set_limit",
        ))
        if name == "folder":
            return (name, either())
        if name == "drop":
            return (name, max(self.path(), self.path(), key=len))
        if name == "put":
            cells = [chance.choice((0, 5, 999999, chance.randint(0, 999999))) for many in range(self.number(1, 20))]
            return (name, either(), self.number(0, 39 - len(cells) // 2), cells)
        if name == "trim":
            return (name, self.file_path(), self.number(0, 40))
        if name == "hollow":
            return (name, self.file_path(), *self.span())
        if name == "share":
            return (name, self.file_path(), *self.span(), chance.choice((self.file_path, either))(), self.number(0, 30))
        if name == "set_limit":
            return (name, self.path(), self.number(0, 999))
        return (name, self.file_path() if name == "twin" else self.path(), either())

    def do(self):
        """One deed, held against the tree of paths."""
        name, *handed = self.request()
        before = (self.deed.root, self.deed.news())
        due = told = None
        try:
            many = getattr(self.model, name)(*handed)
        except Refused as refusal:
            due = refusal.told
        try:
            self.assertIsNone(getattr(self.deed, name)(*handed))
        except WoodError as refusal:
            told = (type(refusal), list(vars(refusal).values()))
        self.assertEqual(told, due, (name, handed))
        if due:
            self.assertEqual((self.deed.root, self.deed.news()), before)
        elif not before[1]:
            self.assertEqual(len(self.deed.news()), many)
        self.ways_used[due[0].__name__ if due else name] = True
        self.check_tree(self.deed.view, self.deed.root)
        self.check_news()

    def check_tree(self, view, root):
        found = {}
        self.pieces = {}
        self.read(view, root, "", found)
        self.assertEqual(found, self.model.tree)
        self.assertEqual(len(set(self.pieces.values())), len(self.pieces))

    def read(self, view, place, path, found):
        knot = view(place)
        if isinstance(knot, FolderKnot):
            found[path] = knot.limit
            for name, kind, below in knot.entries:
                self.assertEqual(kind, view(below).kind())
                self.read(view, below, f"{path}/{name}" if path else name, found)
            return
        cells = spread(knot.row)
        due = self.model.tree.get(path)
        self.assertTrue(is_tidy(knot.row))
        self.assertIsInstance(due, list, path)
        found[path] = [None] * knot.size
        for at, (piece, skip) in cells.items():
            put, index, value = due[at]
            # Each data piece is that of one put, and of the same eight of its cells, wherever it is shared.
            self.assertEqual(self.pieces.setdefault((put, index // 8), piece), piece)
            self.assertEqual((index % 8, value), (skip, view(piece).cells[skip]))
            found[path][at] = due[at]

    def check_news(self):
        news = self.deed.news()
        for at, place in enumerate(news):
            knot = self.deed.view(place)
            self.assertEqual(knot.born, self.deed.now)
            self.assertTrue(all(point in news[:at] or point < 1000 for point in knot.points()))
        self.assertEqual(news[-1:], [self.deed.root] if self.deed.root >= 1000 else [])

    def check_limits(self):
        heavy = []
        for path, limit in self.model.tree.items():
            if self.model.is_folder(path) and limit:
                many = len(self.closure(self.place_of(path)))
                heavy += [(path, many)] if many > limit else []
        if heavy:
            self.refused(Over, min(heavy), self.deed.need_limits)
        else:
            self.assertIsNone(self.deed.need_limits())

    def place_of(self, path):
        place = self.deed.root
        for name in path.split("/") if path else []:
            place = dict((entry[0], entry[2]) for entry in self.deed.view(place).entries)[name]
        return place

    def closure(self, place):
        return {place}.union(*(self.closure(point) for point in self.deed.view(place).points()))

    def settle(self):
        news = self.deed.news()
        kept = {place: knot.stuff() for place, knot in self.forest.items()}
        spare = [place for place in range(2, 600) if place not in self.forest]
        places = self.chance.sample(spare, len(news) + self.chance.randint(0, 2))
        pieces, root = self.deed.settled(places)
        self.assertEqual([place for place, stuff in pieces], places[:len(news)])
        for place, stuff in pieces:
            self.assertTrue(is_knot(stuff))
            self.forest[place] = knot_of(stuff)
        for place, stuff in kept.items():
            self.assertEqual(self.forest[place].stuff(), stuff)
        self.check_tree(self.forest.__getitem__, root)
        self.forest = {place: self.forest[place] for place in self.reached(root)}
        return root

    def reached(self, place):
        return {place}.union(*(self.reached(point) for point in self.forest[place].points()))

    def test_any_deeds(self):
        self.ways_used = {}
        for seed in range(16):
            self.chance = random.Random(seed)
            self.model = Paths()
            self.forest = {2: FolderKnot(1, 0, ())}
            root = 2
            for now in range(2, 90):
                self.deed = Deed(self.forest.__getitem__, root, now)
                for again in range(self.chance.choice((1, 1, 2, 5))):
                    self.do()
                self.check_limits()
                root = self.settle()
        names = "folder put trim hollow share twin move drop set_limit NoPath NotThere There Crowded NotFile NotFolder"
        for name in (names + " NoSpan NoCells Within TooDeep").split():
            self.assertIn(name, self.ways_used)


if __name__ == "__main__":
    unittest.main()
