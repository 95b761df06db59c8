"""Promises 50 to 59: many deeds by chance, held against a tree of paths that is reckoned from the words alone."""

import random
import unittest

from clonewood.errors import Over, WoodError
from clonewood.growing import Deed
from clonewood.knots import FolderKnot, is_knot, knot_of
from helper import WoodCase, is_tidy, spread
from model import Paths, Refused, Requests


class AnyDeeds(WoodCase):
    def do(self):
        """One deed, held against the tree of paths."""
        name, *handed = self.requests.request()
        before = (self.deed.root, self.deed.news())
        due = told = None
        try:
            many = getattr(self.model, name)(*handed)
        except Refused as refusal:
            due = refusal.told
        try:
            self.assertIsNone(getattr(self.deed, name)(*handed))
        except WoodError as refusal:
            told = (type(refusal), list(vars(refusal).values()))
        self.assertEqual(told, due, (name, handed))
        if due:
            self.assertEqual((self.deed.root, self.deed.news()), before)
        elif not before[1]:
            self.assertEqual(len(self.deed.news()), many)
        self.ways_used[due[0].__name__ if due else name] = True
        self.check_tree(self.deed.view, self.deed.root)
        self.check_news()

    def check_tree(self, view, root):
        found = {}
        self.pieces = {}
        self.read(view, root, "", found)
        self.assertEqual(found, self.model.tree)
        self.assertEqual(len(set(self.pieces.values())), len(self.pieces))

    def read(self, view, place, path, found):
        knot = view(place)
        if isinstance(knot, FolderKnot):
            found[path] = knot.limit
            for name, kind, below in knot.entries:
                self.assertEqual(kind, view(below).kind())
                self.read(view, below, f"{path}/{name}" if path else name, found)
            return
        cells = spread(knot.row)
        due = self.model.tree.get(path)
        self.assertTrue(is_tidy(knot.row))
        self.assertIsInstance(due, list, path)
        found[path] = [None] * knot.size
        for at, (piece, skip) in cells.items():
            put, index, value = due[at]
            # Each data piece is that of one put, and of the same eight of its cells, wherever it is shared.
            self.assertEqual(self.pieces.setdefault((put, index // 8), piece), piece)
            self.assertEqual((index % 8, value), (skip, view(piece).cells[skip]))
            found[path][at] = due[at]

    def check_news(self):
        news = self.deed.news()
        for at, place in enumerate(news):
            knot = self.deed.view(place)
            self.assertEqual(knot.born, self.deed.now)
            self.assertTrue(all(point in news[:at] or point < 1000 for point in knot.points()))
        self.assertEqual(news[-1:], [self.deed.root] if self.deed.root >= 1000 else [])

    def check_limits(self):
        heavy = []
        for path, limit in self.model.tree.items():
            if self.model.is_folder(path) and limit:
                many = len(self.closure(self.place_of(path)))
                self.assertEqual(self.model.weight(path), many)
                heavy += [(path, many)] if many > limit else []
        if heavy:
            self.refused(Over, min(heavy), self.deed.need_limits)
        else:
            self.assertIsNone(self.deed.need_limits())

    def place_of(self, path):
        place = self.deed.root
        for name in path.split("/") if path else []:
            place = dict((entry[0], entry[2]) for entry in self.deed.view(place).entries)[name]
        return place

    def closure(self, place):
        return {place}.union(*(self.closure(point) for point in self.deed.view(place).points()))

    def settle(self):
        news = self.deed.news()
        kept = {place: knot.stuff() for place, knot in self.forest.items()}
        spare = [place for place in range(2, 600) if place not in self.forest]
        places = self.chance.sample(spare, len(news) + self.chance.randint(0, 2))
        pieces, root = self.deed.settled(places)
        self.assertEqual([place for place, stuff in pieces], places[:len(news)])
        for place, stuff in pieces:
            self.assertTrue(is_knot(stuff))
            self.forest[place] = knot_of(stuff)
        for place, stuff in kept.items():
            self.assertEqual(self.forest[place].stuff(), stuff)
        self.check_tree(self.forest.__getitem__, root)
        self.forest = {place: self.forest[place] for place in self.reached(root)}
        return root

    def reached(self, place):
        return {place}.union(*(self.reached(point) for point in self.forest[place].points()))

    def test_any_deeds(self):
        self.ways_used = {}
        for seed in range(16):
            self.chance = random.Random(seed)
            self.model = Paths()
            self.requests = Requests(self.chance, self.model)
            self.forest = {2: FolderKnot(1, 0, ())}
            root = 2
            for now in range(2, 90):
                self.deed = Deed(self.forest.__getitem__, root, now)
                for again in range(self.chance.choice((1, 1, 2, 5))):
                    self.do()
                self.check_limits()
                root = self.settle()
        names = "folder put trim hollow share twin move drop set_limit NoPath NotThere There Crowded NotFile NotFolder"
        for name in (names + " NoSpan NoCells Within TooDeep").split():
            self.assertIn(name, self.ways_used)


if __name__ == "__main__":
    unittest.main()
