"""Promises 6, 8, 60 to 69, 74 and 90 to 94: any deeds, by counts and by births side by side, with and without falls.

Each head is held against a tree of paths kept beside it; what lies, rests and is spare against a walk over the pieces.
Floors are harmed and mended, too; what the looker tells is held against a walk of its own.
"""

import random
import unittest

from clonewood.errors import PowerGone, Rootless, WoodError
from clonewood.floor import Floor
from clonewood.looking import looked, mended
from clonewood.planting import come_up, planted
from clonewood.room import limits_at, own, room, shares, weight_at
from helper import WoodCase, comes_to, points_in, read_head, read_tree
from model import Refused
from woods import DEEDS, WoodKept, WoodRequests


class AnyWood(WoodCase):
    def begin(self, seed, many):
        self.chance = random.Random(seed)
        self.floors = [Floor(many), Floor(many)]
        self.woods = [planted(self.floors[0], "wood", "a"), planted(self.floors[1], "wood", "a", True)]
        self.kept = WoodKept("wood", "a")
        self.requests = WoodRequests(self.chance, self.kept)
        self.rests = [set(), set()]
        self.births = [False, True]

    def lying(self, wood):
        return comes_to(wood.floor, [root for name, kind, root in wood.heads()])

    def spare(self, at):
        wood = self.woods[at]
        return set(range(2, wood.floor.many)) - self.lying(wood) - self.rests[at]

    def call(self, wood, request):
        name, *handed = request
        if name == "take_in":
            handed[1] = self.begun(wood, *handed[:2])
        return getattr(wood, name)(*handed)

    def begun(self, wood, growth, changes):
        """A deed with changes done to it, or something that is none where the growth is no growth."""
        try:
            deed = wood.begin(growth)
        except WoodError:
            return "no deed"
        for name, *handed in changes:
            getattr(deed, name)(*handed)
        return deed

    def numbered(self, request):
        """The request as it is told to what is kept: of a deed with several changes, how many pieces are new."""
        if request[0] != "take_in":
            return request
        deed = self.begun(self.woods[0], *request[1:3])
        return request[:3] + (0 if deed == "no deed" else len(deed.news()),) + request[3:]

    def step(self, request, cut=None):
        """One request to both woods, and to what is kept; where the power goes, both woods are found again."""
        spare = len(self.spare(0))
        tried = self.kept.twin_wood()
        due = None
        try:
            pieces = self.requests.ask(tried, spare, self.numbered(request))
        except Refused as refusal:
            due = refusal.told
        self.ways_used[due[0].__name__ if due else request[0]] = True
        for at, wood in enumerate(self.woods):
            if due:
                self.kept_as_it_was(wood, due, request)
            elif cut is not None and cut <= pieces:
                self.fall(at, request, cut)
            else:
                self.deed(at, request, pieces)
        if not due and (cut is None or cut > pieces):
            self.take_over(tried)

    def take_over(self, tried):
        self.kept.stamp, self.kept.heads, self.kept.lines = tried.stamp, tried.heads, tried.lines

    def kept_as_it_was(self, wood, due, request):
        before = [wood.stamp, wood.heads(), wood.lying(), wood.resting(), wood.spare(), len(wood.floor.writes())]
        with self.assertRaises(WoodError, msg=request) as taken:
            self.call(wood, request)
        self.assertEqual((type(taken.exception), list(vars(taken.exception).values())), due, request)
        self.assertEqual(
            [wood.stamp, wood.heads(), wood.lying(), wood.resting(), wood.spare(), len(wood.floor.writes())], before)

    def deed(self, at, request, pieces):
        wood = self.woods[at]
        before, spare, writes = self.lying(wood), self.spare(at), len(wood.floor.writes())
        going = own(wood, [request[1]]) if request[0] == "go" else None
        written, freed = self.call(wood, request)
        self.same(len(written), pieces)
        self.assertEqual(wood.floor.writes()[writes:], written + [wood.stamp % 2])
        self.assertTrue(set(written) <= spare)
        self.assertEqual(len(set(written)), len(written))
        for index, place in enumerate(written):
            self.assertTrue(points_in(wood.floor.read(place)) <= before | set(written[:index]))
            self.assertEqual(wood.floor.read(place)[1], wood.stamp)
        behind = self.lying(wood)
        self.same(freed, sorted(before - behind))
        self.assertEqual(behind - before, set(written))
        if going is not None:
            self.same(freed, going)
        if request[0] in ("make", "clone"):
            self.assertEqual(behind, before)
        self.rests[at] = set(freed)

    def fall(self, at, request, cut):
        wood, floor = self.woods[at], self.floors[at]
        before = [wood.stamp, wood.heads(), wood.lying()]
        floor.power_on()
        floor.cut_after(cut)
        with self.assertRaises(PowerGone):
            self.call(wood, request)
        self.all_down(wood)
        floor.power_on()
        self.all_down(wood)
        found = self.woods[at] = come_up(floor, self.births[at])
        self.assertEqual([found.stamp, found.heads(), found.lying()], before)
        # Whether the fall was at the top is seen by the place that is spoilt.
        self.rests[at] = set() if self.is_spoilt(floor, (found.stamp + 1) % 2) else self.rests[at]
        self.falls[self.is_spoilt(floor, (found.stamp + 1) % 2)] = True

    def is_spoilt(self, floor, place):
        try:
            floor.read(place)
        except WoodError:
            return True
        return False

    def check(self, names):
        """All that is told of these heads, and of the places."""
        self.assertEqual(*[[(name, kind) for name, kind, root in wood.heads()] for wood in self.woods])
        for at, wood in enumerate(self.woods):
            self.same(wood.stamp, self.kept.stamp)
            self.assertEqual([(name, kind) for name, kind, root in wood.heads()],
                             [(name, self.kept.heads[name].kind) for name in sorted(self.kept.heads)])
            self.same(wood.floor.read(wood.stamp % 2)[3], self.kept.top_lines())
            lying = self.lying(wood)
            self.same(wood.lying(), sorted(lying))
            self.same(wood.resting(), sorted(self.rests[at]))
            self.same(wood.spare(), sorted(self.spare(at)))
            for name in names:
                self.check_head(wood, name)
            self.check_room(wood, lying)

    def check_head(self, wood, name):
        head = self.kept.heads[name]
        reading = head.tree.reading()
        self.assertEqual(read_head(wood, name), reading)
        self.assertEqual(read_tree(wood.floor, wood.root_of(name)), reading)
        if head.kind == "make":
            self.same(wood.mark_of(name), head.mark)
        else:
            self.same(wood.stands_on(name), self.kept.stands_on(name))
        paths = sorted(head.tree.tree)
        limits = [(path, head.tree.tree[path], head.tree.weight(path)) for path in paths
                  if head.tree.is_folder(path) and head.tree.tree[path]]
        self.same(limits_at(wood, name), limits)
        self.assertTrue(all(limit >= weight for path, limit, weight in limits))
        path = self.chance.choice(paths)
        self.same(weight_at(wood, name, path), head.tree.weight(path))
        self.same(sum(room(wood, name)), head.tree.weight(""))

    def check_room(self, wood, lying):
        told = shares(wood)
        self.assertEqual(sum(many for names, many in told), len(lying))
        names = self.chance.sample(sorted(self.kept.heads), self.chance.randint(0, len(self.kept.heads)))
        roots = {name: root for name, kind, root in wood.heads()}
        inner = comes_to(wood.floor, [roots[name] for name in names])
        outer = comes_to(wood.floor, [roots[name] for name in roots if name not in names])
        self.same(own(wood, names), sorted(inner - outer))
        self.assertEqual(sum(many for some, many in told if set(some) <= set(names)), len(inner - outer))

    def check_going(self):
        """Several heads go, one behind the other: just what was their own together comes free."""
        for at, floor in enumerate(self.floors):
            wood = come_up(floor.copied(), self.births[at])
            names = self.chance.sample(sorted(self.kept.heads), self.chance.randint(0, len(self.kept.heads)))
            kept = self.kept.twin_wood()
            freed, gone = [], []
            for name in names:
                try:
                    kept.go(0, name)
                    gone.append(name)
                except Refused:
                    pass
            due = own(wood, gone)
            for name in gone:
                freed += wood.go(name)[1]
            self.same(sorted(freed), due)

    def bad_places(self, floor, root):
        """The words of promises 90 and 91: each way from a root, one by one, to what is due there."""
        bad = {}

        def go(place, kind, many):
            try:
                stuff = floor.read(place)
            except WoodError as refusal:
                bad[place] = "nothing" if type(refusal).__name__ == "NoPiece" else "spoilt"
                return
            if not isinstance(stuff, tuple) or stuff[0] != kind or kind == "cells" and len(stuff[2]) < many:
                bad[place] = "odd"
            elif kind == "folder":
                for name, below, there in stuff[3]:
                    go(there, below, 0)
            elif kind == "file":
                for begin, long, there, skip in stuff[3]:
                    go(there, "cells", skip + long)

        go(root, "folder", 0)
        return bad

    def hurt(self):
        """Some places of both floors are harmed, lost or odd, both alike; what is told of it, and which heads are whole."""
        places = sorted(comes_to(self.floors[0], [root for name, kind, root in self.woods[0].heads()]))
        places = self.chance.sample(places, min(len(places), self.chance.choice((0, 1, 1, 2, 4))))
        for place in places + self.chance.sample(range(2, self.floors[0].many), 2):
            way = self.chance.choice(("harm", "lose", "odd"))
            if place not in places and any(wood.book.lies(place) for wood in self.woods):
                continue
            for floor in self.floors:
                if way == "odd":
                    floor.write(place, "odd")
                else:
                    floor.write(place, "something")
                    getattr(floor, way)(place)
        whole = []
        for wood in self.woods:
            bad = {}
            whole = []
            for name, kind, root in wood.heads():
                found = self.bad_places(wood.floor, root)
                whole += [] if found else [name]
                for place, word in found.items():
                    bad.setdefault((place, word), []).append(name)
            told = [(place, word, tuple(bad[place, word])) for place, word in sorted(bad)]
            self.same(looked(wood.floor), (wood.stamp, told, whole))
        return whole

    def mend(self):
        self.kept.mend(self.hurt())
        rootless = self.kept.rootless()
        for at, floor in enumerate(self.floors):
            writes = floor.writes()
            if rootless is not None:
                self.refused(Rootless, [rootless], mended, floor, True)
                self.assertEqual(floor.writes(), writes)
                self.births[at] = False
            elif at == 1:
                self.births[at] = True
            self.woods[at] = mended(floor, self.births[at])
            self.rests[at] = set()
            self.assertEqual(floor.writes()[len(writes):], [(self.kept.stamp - 1) % 2, self.kept.stamp % 2])
        self.mends[rootless is None] = True
        self.check(sorted(self.kept.heads))

    def run_through(self, seed, many, steps, falling, mending=0):
        self.begin(seed, many)
        for number in range(steps):
            if self.chance.random() < mending:
                self.mend()
            request = self.requests.request()
            cut = self.chance.randint(0, 6) if self.chance.random() < falling else None
            self.step(request, cut)
            if number % 8 == 0 or number == steps - 1:
                self.check(sorted(self.kept.heads))
                self.check_going()
            else:
                self.check([name for name in request[1:] if isinstance(name, str) and name in self.kept.heads][:1])
            if number % 11 == 0:
                self.find_again()

    def find_again(self):
        for at, floor in enumerate(self.floors):
            wood = self.woods[at]
            rootless = self.kept.rootless()
            if rootless is not None:
                self.refused(Rootless, [rootless], come_up, floor, True)
            for births in (False, True) if rootless is None else (False,):
                found = come_up(floor, births)
                self.assertEqual([found.word, found.stamp, found.heads(), found.lying(), found.resting()],
                                 [wood.word, wood.stamp, wood.heads(), wood.lying(), wood.resting()])
            if self.chance.random() < 0.5:
                self.woods[at] = come_up(floor, self.births[at])

    def test_any_deeds(self):
        self.ways_used, self.falls = {}, {}
        for seed in range(8):
            with self.subTest(seed):
                self.run_through(seed, self.chance_of_places(seed), 220, 0)
        due = DEEDS + ["take_in", "make", "clone", "sprout", "go", "NoHead", "NotGrowth", "NotMake", "NoWord", "OldHead", "TooMany"]
        for name in due + ["Needed", "Over", "NoRoom", "NoPath", "NotThere", "There", "NotFile", "NoSpan"]:
            self.assertIn(name, self.ways_used)

    def test_any_deeds_with_falls(self):
        self.ways_used, self.falls = {}, {}
        for seed in range(100, 106):
            with self.subTest(seed):
                self.run_through(seed, self.chance_of_places(seed), 130, 0.35)
        self.assertEqual(sorted(self.falls), [False, True])

    def test_any_deeds_with_mending(self):
        self.ways_used, self.falls, self.mends = {}, {}, {}
        for seed in range(200, 210):
            with self.subTest(seed):
                self.run_through(seed, self.chance_of_places(seed), 120, 0.1, 0.06)
        self.assertEqual(sorted(self.mends), [False, True])

    def chance_of_places(self, seed):
        return (600, 90, 40, 16)[seed % 4]


if __name__ == "__main__":
    unittest.main()
