"""Promises 70 to 74, with 3 to 5: own room, shares, the room of a head, weights and limits."""

import unittest

from clonewood.errors import NoHead, NoPath, NotThere
from clonewood.floor import Floor
from clonewood.planting import planted
from clonewood.room import limits_at, own, room, shares, weight_at
from helper import NO_PATHS, WoodCase, comes_to


class RoomCase(WoodCase):
    """m and n are makes of a; b is cloned from m; s is by itself."""

    births = False

    def setUp(self):
        wood = self.wood = planted(Floor(80), "wood", "a", self.births)
        wood.put("a", "f", 0, list(range(1, 25)))
        wood.folder("a", "d")
        wood.put("a", "d/g", 0, [1])
        wood.make("a", "m")
        wood.put("a", "f", 0, [9])
        wood.make("a", "n")
        wood.clone("m", "b")
        wood.drop("b", "d")
        wood.sprout("s")
        wood.folder("a", "e")
        self.roots = {name: root for name, kind, root in wood.heads()}

    def comes(self, *names):
        return comes_to(self.wood.floor, [self.roots[name] for name in names])

    def unchanged(self, error, fields, call, *handed):
        self.kept(self.wood, error, fields, call, self.wood, *handed)

    def test_own_room(self):
        for names in (["a"], ["b"], ["m"], ["n"], ["s"], ["a", "n"], ["m", "b"], ["m", "n"], ["s", "a", "m"],
                      ["n", "m", "b", "a"], ["a", "b", "m", "n", "s"]):
            others = [name for name in self.roots if name not in names]
            due = sorted(self.comes(*names) - self.comes(*others))
            for told in (names, names[::-1], names + names, names + names[:1]):
                kept = list(told)
                self.same(own(self.wood, told), due)
                self.assertEqual(told, kept)
        self.same(own(self.wood, []), [])
        self.same(own(self.wood, ["a", "b", "m", "n", "s"]), self.wood.lying())
        self.told_anew(lambda: own(self.wood, ["a"]))

    def test_what_is_own(self):
        # Of a its top folder and the folder e, of the others the top folder alone.
        self.same([len(own(self.wood, [name])) for name in "absmn"], [2, 1, 1, 1, 1])
        # And the newer file f, with its first piece; the older one, whose pieces the newer one shares.
        self.same(len(own(self.wood, ["a", "n"])), 5)
        self.same(len(own(self.wood, ["b", "m"])), 3)

    def test_own_room_of_no_head(self):
        for names, name in ((["x"], "x"), (["a", "x", "y"], "x"), (["y", "a", "x"], "y"), (["a", ""], ""), (["A"], "A"),
                            (["a", "a", "a "], "a ")):
            self.unchanged(NoHead, [name], own, names)

    def test_shares(self):
        told = shares(self.wood)
        self.assertEqual(told, sorted(told))
        sharers = {}
        for place in self.wood.lying():
            names = tuple(name for name in sorted(self.roots) if place in self.comes(name))
            sharers[names] = sharers.get(names, 0) + 1
        self.same(told, sorted(sharers.items()))
        self.same(told, [
            (("a",), 2), (("a", "b", "m", "n"), 3), (("a", "m", "n"), 3), (("a", "n"), 2), (("b",), 1), (("b", "m"), 1),
            (("m",), 1), (("n",), 1), (("s",), 1),
        ])
        self.assertEqual(sum(many for names, many in told), len(self.wood.lying()))
        self.told_anew(lambda: shares(self.wood))

    def test_shares_without_heads(self):
        wood = planted(Floor(8), "w", "a", self.births)
        self.same(shares(wood), [(("a",), 1)])
        wood.go("a")
        self.same(shares(wood), [])
        self.same(own(wood, []), [])
        self.refused(NoHead, ["a"], own, wood, ["a"])

    def test_the_room_of_a_head(self):
        for name in self.roots:
            told = room(self.wood, name)
            self.same(told, (len(own(self.wood, [name])), len(self.comes(name)) - len(own(self.wood, [name]))))
            self.same(sum(told), weight_at(self.wood, name, ""))
        self.same(room(self.wood, "s"), (1, 0))
        self.same(room(self.wood, "b"), (1, 4))
        for name in ("", "x", "A", "a "):
            self.unchanged(NoHead, [name], room, name)

    def test_weights(self):
        due = {"a": 10, "a d": 3, "a e": 1, "a f": 5, "a d/g": 2, "m": 8, "m f": 4, "b": 5, "b f": 4, "s": 1, "n d": 3}
        for key, many in due.items():
            name, blank, path = key.partition(" ")
            self.same(weight_at(self.wood, name, path), many)
        for name in ("", "x", "A"):
            self.unchanged(NoHead, [name], weight_at, name, "A")
        for path in NO_PATHS:
            self.unchanged(NoPath, [path], weight_at, "a", path)
        for path in ("x", "f/x", "d/x", "e/x/y"):
            self.unchanged(NotThere, [path], weight_at, "a", path)
        self.unchanged(NotThere, ["d"], weight_at, "b", "d")

    def test_what_is_shared_within_a_head_weighs_once(self):
        self.wood.twin("a", "f", "e/f")
        self.same([weight_at(self.wood, "a", path) for path in ("", "e")], [10, 6])
        self.wood.share("a", "f", 0, 24, "e/h", 0)
        self.same([weight_at(self.wood, "a", path) for path in ("", "e", "e/h")], [11, 7, 5])

    def test_limits(self):
        for name in self.roots:
            self.same(limits_at(self.wood, name), [])
        self.wood.set_limit("a", "", 999)
        self.wood.set_limit("a", "e", 1)
        self.wood.set_limit("a", "d", 3)
        self.wood.make("a", "o")
        self.wood.folder("a", "d0")
        self.wood.set_limit("a", "d0", 4)
        self.wood.move("a", "d/g", "g")
        self.wood.folder("a", "d/z")
        self.wood.set_limit("a", "d/z", 7)
        self.wood.set_limit("a", "", 0)
        self.same(limits_at(self.wood, "o"), [("", 999, 10), ("d", 3, 3), ("e", 1, 1)])
        self.same(limits_at(self.wood, "a"), [("d", 3, 2), ("d/z", 7, 1), ("d0", 4, 1), ("e", 1, 1)])
        self.same(limits_at(self.wood, "b"), [])
        self.told_anew(lambda: limits_at(self.wood, "a"))
        for name in ("", "x", "A"):
            self.unchanged(NoHead, [name], limits_at, name)

    def test_just_its_own_room_comes_free(self):
        for name in ("s", "n", "b", "m", "a"):
            due = own(self.wood, [name])
            self.assertTrue(due)
            self.same(self.wood.go(name)[1], due)

    def test_several_heads_go(self):
        due = own(self.wood, ["a", "n", "m", "b"])
        freed = []
        for name in ("n", "b", "a", "m"):
            freed += self.wood.go(name)[1]
        self.same(sorted(freed), due)
        self.same(self.wood.lying(), own(self.wood, ["s"]))

    def test_makes_and_clones_leave_what_lies(self):
        lying = self.wood.lying()
        self.wood.make("a", "o")
        self.wood.clone("o", "p")
        self.same(self.wood.lying(), lying)
        self.same(own(self.wood, ["a"]), [])


class RoomByBirths(RoomCase):
    births = True


if __name__ == "__main__":
    unittest.main()
