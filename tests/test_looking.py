"""Promises 90 to 94, with 5 and 8: the looker and the mender."""

import unittest

from clonewood.errors import Needed, NoWood, PowerGone, Rootless
from clonewood.floor import Floor
from clonewood.heads import tops_of
from clonewood.looking import looked, mended
from clonewood.planting import come_up, planted
from clonewood.room import own
from clonewood.wood import Wood
from helper import WoodCase, all_told, comes_to, read_head

ODD = [0, 7, "folder", (), ("folder",), ("folder", 0, 0, ()), ("folder", 1, 0, (("a", "file", 1),)), ("file", 1, 41, ()),
       ("file", 1, 2, ((0, 3, 5, 0),)), ("cells", 1, ()), ("cells", 1, (1000000,)), ("top", 4, "w", (), (5,)), ("odd", 1, 2)]


def grown_wood(births=False):
    """a with makes m and n, b cloned from m with a make k, c cloned from k, and s by itself."""
    wood = planted(Floor(90), "wood", "a", births)
    wood.put("a", "f", 0, list(range(1, 21)))
    wood.folder("a", "d")
    wood.put("a", "d/g", 0, [1, 2])
    wood.make("a", "m")
    wood.put("a", "f", 2, [99])
    wood.make("a", "n")
    wood.folder("a", "e")
    wood.clone("m", "b")
    wood.drop("b", "d")
    wood.make("b", "k")
    wood.clone("k", "c")
    wood.put("c", "h", 0, [7])
    wood.sprout("s")
    return wood


def place_at(wood, name, path, piece=None):
    """The place of what stands at a path, or, of a file, of one of its data pieces."""
    place = wood.root_of(name)
    for word in path.split("/") if path else []:
        place = dict((entry[0], entry[2]) for entry in wood.piece(place)[3])[word]
    return place if piece is None else wood.piece(place)[3][piece][2]


def spoil(floor, place, way):
    if way in ("harm", "lose"):
        getattr(floor, way)(place)
    else:
        floor.write(place, way)


class Looking(WoodCase):
    def setUp(self):
        self.wood = grown_wood()
        self.floor = self.wood.floor
        self.names = [name for name, kind, root in self.wood.heads()]

    def found(self, due):
        """What the looker tells, of the bad places that are due with their words and names."""
        writes = self.floor.writes()
        bad = sorted((place, word, tuple(sorted(names))) for place, (word, names) in due.items())
        hurt = {name for place, word, names in bad for name in names}
        told = looked(self.floor)
        self.same(told, (self.wood.stamp, bad, [name for name in self.names if name not in hurt]))
        self.assertEqual(self.floor.writes(), writes)
        self.told_anew(lambda: looked(self.floor)[1])
        self.told_anew(lambda: looked(self.floor)[2])

    def heads_at(self, place):
        return {name for name in self.names if place in comes_to(self.floor, [self.wood.root_of(name)])}

    def test_nothing_bad(self):
        self.found({})
        self.same(looked(self.floor), (13 + 1, [], ["a", "b", "c", "k", "m", "n", "s"]))

    def test_each_place(self):
        """Each place that lies, harmed, lost or odd, with all heads that come to it."""
        for place in self.wood.lying():
            names = self.heads_at(place)
            stuff = self.floor.read(place)
            for way, word in [("harm", "spoilt"), ("lose", "nothing")] + [(odd, "odd") for odd in ODD]:
                with self.subTest((place, way)):
                    spoil(self.floor, place, way)
                    self.found({place: (word, names)})
                    self.floor.write(place, stuff)

    def test_places_to_which_no_head_comes(self):
        for place in self.wood.spare() + self.wood.resting():
            self.floor.write(place, "odd")
        for place in self.wood.spare()[:5]:
            self.floor.harm(place)
        self.found({})

    def test_what_lies_behind_a_bad_place(self):
        """It goes no farther from a bad place; other heads still come to what is behind it."""
        wood = self.wood
        root, file, piece = wood.root_of("a"), place_at(wood, "a", "f"), place_at(wood, "a", "f", 0)
        folder, old = place_at(wood, "a", "d"), place_at(wood, "a", "d/g", 0)
        for place, way in ((root, "harm"), (file, "lose"), (piece, "odd"), (folder, "harm"), (old, "lose")):
            spoil(self.floor, place, way)
        self.found({root: ("spoilt", "a"), file: ("nothing", "n"), piece: ("odd", "mbkc"), folder: ("spoilt", "mn")})

    def test_a_knot_of_another_kind(self):
        wood = self.wood
        cells = ("cells", 1, (1,) * 8)
        for place, names in ((wood.root_of("s"), "s"), (place_at(wood, "a", "f"), "an"), (place_at(wood, "a", "d"), "amn")):
            stuff = self.floor.read(place)
            self.floor.write(place, cells)
            self.found({place: ("odd", names)})
            self.floor.write(place, stuff)

    def test_cells_that_are_too_few(self):
        wood = self.wood
        # The piece that was put last: a and n have cell 2 there. The first one: m, b, k, c have it whole, a and n in parts.
        first = place_at(wood, "m", "f", 0)
        self.same([stretch[2:] for stretch in wood.piece(place_at(wood, "a", "f"))[3]][0], (first, 0))
        names = self.heads_at(first)
        self.same(sorted(names), ["a", "b", "c", "k", "m", "n"])
        for many in (7, 1):
            self.floor.write(first, ("cells", 1, (1,) * many))
            self.found({first: ("odd", names)})
        self.floor.write(first, ("cells", 9, (5,) * 8))
        self.found({})
        wood.trim("a", "f", 2)
        self.floor.write(first, ("cells", 1, (1, 1)))
        self.found({first: ("odd", names - {"a"})})
        self.floor.write(first, ("cells", 1, (1,)))
        self.found({first: ("odd", names)})

    def test_due_by_one_of_the_ways(self):
        """Two files of one head share a piece; for one of them it has too few cells."""
        wood = self.wood
        wood.share("a", "f", 0, 1, "z", 0)
        wood.make("a", "o")
        wood.drop("a", "f")
        self.names = [name for name, kind, root in wood.heads()]
        first = place_at(wood, "m", "f", 0)
        self.same(place_at(wood, "a", "z", 0), first)
        self.floor.write(first, ("cells", 1, (1,)))
        self.found({first: ("odd", "bckmno")})

    def test_several_places(self):
        wood = self.wood
        due = {}
        for place, word, names in ((wood.root_of("s"), "nothing", "s"), (wood.root_of("k"), "spoilt", "bk"),
                                   (place_at(wood, "c", "h", 0), "odd", "c"), (place_at(wood, "a", "e"), "spoilt", "a"),
                                   (place_at(wood, "n", "f", 1), "nothing", "an")):
            due[place] = (word, names)
        for place, (word, names) in due.items():
            spoil(self.floor, place, {"nothing": "lose", "spoilt": "harm", "odd": "odd"}[word])
        self.found(due)

    def test_tops(self):
        old = self.floor.read((self.wood.stamp + 1) % 2)
        for way in ("harm", "lose", 5, ("top", self.wood.stamp, "wood", (), (1,))):
            top = self.floor.read(self.wood.stamp % 2)
            spoil(self.floor, self.wood.stamp % 2, way)
            # The older top has all heads but s, and one stamp less.
            self.same(looked(self.floor), (old[1], [], [name for name in self.names if name != "s"]))
            self.floor.write(self.wood.stamp % 2, top)
        self.floor.harm((self.wood.stamp + 1) % 2)
        self.found({})
        self.floor.lose(self.wood.stamp % 2)
        self.refused(NoWood, [], looked, self.floor)
        self.refused(NoWood, [], looked, Floor(9))

    def test_the_dark(self):
        for floor in (self.floor, Floor(9)):
            floor.cut_after(0)
            self.refused(PowerGone, [], floor.write, 8, 1)
            self.refused(PowerGone, [], looked, floor)

    def test_no_heads(self):
        floor = Floor(9)
        wood = planted(floor, "w", "a")
        wood.go("a")
        self.same(looked(floor), (2, [], []))
        self.same(mended(floor).heads(), [])

    def test_places_beyond_the_floor_bear_nothing(self):
        floor = Floor(5)
        floor.write(0, ("top", 2, "w", ((1, 0, ""),), (("a", 1, 0, 2, "", 0), ("b", 1, 1, 599, "w", 1))))
        floor.write(2, ("folder", 1, 0, (("f", "file", 5),)))
        self.same(looked(floor), (2, [(5, "nothing", ("a",)), (599, "nothing", ("b",))], []))


class Mending(WoodCase):
    births = False

    def setUp(self):
        self.wood = grown_wood(self.births)
        self.floor = self.wood.floor
        self.before = {name: read_head(self.wood, name) for name, kind, root in self.wood.heads()}

    def mend(self, names, lines):
        """The floor is mended: just these heads stand, as they read before, and these lines."""
        wood, floor = self.wood, self.floor
        kept = [head for head in floor.read(wood.stamp % 2)[4] if head[0] in names]
        writes = len(floor.writes())
        found = mended(floor, self.births)
        stamp = wood.stamp
        self.assertIs(type(found), Wood)
        self.assertIs(found.floor, floor)
        self.same(floor.writes()[writes:], [(stamp + 1) % 2, stamp % 2])
        self.same(tops_of(floor), [("top", at, "wood", lines, tuple(kept)) for at in (stamp + 2, stamp + 1)])
        self.same([found.word, found.stamp], ["wood", stamp + 2])
        self.same([name for name, kind, root in found.heads()], sorted(names))
        for name in names:
            self.same(read_head(found, name), self.before[name])
        self.same(found.lying(), sorted(comes_to(floor, [head[3] for head in kept])))
        self.same(found.resting(), [])
        self.same(looked(floor), (stamp + 2, [], sorted(names)))
        self.same(all_told(come_up(floor, self.births)), all_told(found))
        return found

    def go_on(self, wood):
        """Deeds behind a mending, as in any wood; at last all heads go, each with its own room."""
        for name, kind, root in wood.heads():
            if kind == "growth":
                wood.put(name, "new", 3, [4, 5])
                self.same(read_head(wood, name), {**self.before[name], "new": [0, 0, 0, 4, 5]})
            else:
                wood.clone(name, "x" + name)
                wood.folder("x" + name, "new")
                self.same(read_head(wood, "x" + name), {**self.before[name], "new": None})
            self.same(wood.lying(), sorted(comes_to(wood.floor, [root for name, kind, root in wood.heads()])))
        waiting = [name for name, kind, root in wood.heads()]
        while waiting:
            name = waiting.pop(0)
            due = own(wood, [name])
            try:
                self.same(wood.go(name)[1], due)
            except Needed:
                waiting.append(name)
        self.same(wood.lying(), [])

    def test_nothing_bad(self):
        lines = self.floor.read(self.wood.stamp % 2)[3]
        self.same(lines, ((1, 0, ""), (9, 5, "m"), (12, 11, "k"), (14, 0, "")))
        self.go_on(self.mend("abckmns", lines))

    def test_again_and_again(self):
        lines = self.floor.read(self.wood.stamp % 2)[3]
        for again in range(3):
            self.wood = self.mend("abckmns", lines)

    def test_a_growth_is_lost(self):
        self.floor.harm(self.wood.root_of("a"))
        self.go_on(self.mend("bckmns", ((1, 0, ""), (9, 5, "m"), (12, 11, "k"), (14, 0, ""))))

    def test_a_line_is_lost(self):
        self.floor.lose(self.wood.root_of("c"))
        self.floor.write(self.wood.root_of("s"), "odd")
        self.go_on(self.mend("abkmn", ((1, 0, ""), (9, 5, "m"))))

    def test_a_make_is_lost_and_no_line_stands_on_it(self):
        self.floor.harm(self.wood.root_of("n"))
        self.go_on(self.mend("abckms", ((1, 0, ""), (9, 5, "m"), (12, 11, "k"), (14, 0, ""))))

    def test_what_several_heads_share_is_lost(self):
        self.floor.harm(place_at(self.wood, "a", "f", 1))
        self.go_on(self.mend("bckms", ((1, 0, ""), (9, 5, "m"), (12, 11, "k"), (14, 0, ""))))

    def test_no_head_is_whole(self):
        for name in "abckmns":
            self.floor.lose(self.wood.root_of(name))
        found = self.mend("", ())
        self.same([found.heads(), found.lying(), found.spare()], [[], [], list(range(2, 90))])
        found.sprout("a")
        self.same(found.floor.read(found.stamp % 2)[3], ((found.stamp, 0, ""),))

    def test_an_older_top(self):
        stamp = self.wood.stamp
        self.floor.harm(stamp % 2)
        self.floor.lose(self.wood.root_of("a"))
        found = mended(self.floor, self.births)
        self.same([found.stamp, [name for name, kind, root in found.heads()]], [stamp + 1, list("bckmn")])
        self.same([top[1] for top in tops_of(self.floor)], [stamp + 1, stamp])

    def test_refusals(self):
        self.refused(NoWood, [], mended, Floor(9), self.births)
        for place in (0, 1):
            self.floor.harm(place)
        self.refused(NoWood, [], mended, self.floor, self.births)
        for floor in (self.floor, Floor(9)):
            floor.cut_after(0)
            self.refused(PowerGone, [], floor.write, 8, 1)
            self.refused(PowerGone, [], mended, floor, self.births)

    def test_the_power_goes(self):
        """At each of the two writes, and again at the next mending; then the floor is mended all the same."""
        for cuts in ((0,), (1,), (0, 0), (0, 1), (1, 0), (1, 1), (1, 1, 0, 1)):
            self.setUp()
            self.floor.harm(self.wood.root_of("a"))
            stamp = self.wood.stamp
            for cut in cuts:
                self.floor.cut_after(cut)
                self.refused(PowerGone, [], mended, self.floor, self.births)
                self.refused(PowerGone, [], mended, self.floor, self.births)
                self.floor.power_on()
                stamp += cut
                self.same([top[1] for top in tops_of(self.floor)], [stamp])
            found = mended(self.floor, self.births)
            self.same([found.stamp, [name for name, kind, root in found.heads()]], [stamp + 2, list("bckmns")])
            for name in "bckmns":
                self.same(read_head(found, name), self.before[name])


class MendingByBirths(Mending):
    births = True


class LostOrigins(WoodCase):
    def lost(self, *names):
        self.wood = grown_wood()
        self.before = {name: read_head(self.wood, name) for name, kind, root in self.wood.heads()}
        for name in names:
            self.wood.floor.harm(self.wood.root_of(name))
        return self.wood.floor

    def test_the_origin_is_no_whole_head(self):
        for names, by, lines in (
            ("m", "b", ((1, 0, ""), (9, 5, ""), (12, 11, "k"), (14, 0, ""))),
            # b and k have one top folder.
            ("k", "c", ((1, 0, ""), (12, 11, ""), (14, 0, ""))),
            ("mk", "c", ((1, 0, ""), (12, 11, ""), (14, 0, ""))),
            ("mcs", "b", ((1, 0, ""), (9, 5, ""))),
            ("man", "b", ((9, 5, ""), (12, 11, "k"), (14, 0, ""))),
        ):
            floor = self.lost(*names)
            writes = floor.writes()
            self.refused(Rootless, [by], mended, floor, True)
            self.same(floor.writes(), writes)
            self.same(looked(floor)[0], self.wood.stamp)
            floor.cut_after(0)
            self.refused(Rootless, [by], mended, floor, True)
            self.assertFalse(floor.is_dark())
            floor.power_on()
            found = mended(floor)
            self.same(floor.read(found.stamp % 2)[3], lines)
            self.same(floor.read((found.stamp + 1) % 2)[3], lines)
            for name, kind, root in found.heads():
                self.same(read_head(found, name), self.before[name])
            self.refused(Rootless, [by], come_up, floor, True)
            self.refused(Rootless, [by], mended, floor, True)
            self.same(mended(floor).heads(), found.heads())

    def test_it_stands_on_nothing(self):
        found = mended(self.lost("m"))
        self.same([found.stands_on("b"), found.stands_on("c"), found.stands_on("a")], ["k", "k", "n"])
        found = mended(self.lost("k"))
        self.same(found.stands_on("c"), None)
        found.make("c", "new")
        self.same(found.stands_on("c"), "new")
        found.go("new")
        found.put("c", "z", 0, [1])
        # A new make of the lost one's name is not the one on which the line stood.
        found.make("a", "k")
        self.same(found.stands_on("c"), None)
        found.go("k")
        self.same(read_head(found, "c"), {**self.before["c"], "z": [1]})
        self.same(found.go("c")[1], sorted(found.resting()))

    def test_the_line_is_lost_with_its_origin(self):
        floor = self.lost("m", "b", "c", "n")
        found = mended(floor, True)
        self.same([name for name, kind, root in found.heads()], ["a", "s"])
        self.same(floor.read(found.stamp % 2)[3], ((1, 0, ""), (14, 0, "")))

    def test_places_come_free(self):
        found = mended(self.lost("m", "k"))
        for name in ("a", "c", "n", "s"):
            due = own(found, [name])
            self.same(found.go(name)[1], due)
        self.same(found.lying(), [])

    def test_by_births_when_the_lost_line_has_gone(self):
        found = mended(self.lost("k"))
        found.go("c")
        self.same(all_told(come_up(found.floor, True)), all_told(found))


if __name__ == "__main__":
    unittest.main()
