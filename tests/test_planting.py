"""Promises 14, 61 to 63, 68 and 69, with 1, 5 and 6: woods planted, woods found again, and the power that goes."""

import unittest

from clonewood.births import Births
from clonewood.books import Counts
from clonewood.errors import Down, NoRoom, NoWood, NoWord, PowerGone, Rootless
from clonewood.floor import Floor
from clonewood.planting import come_up, planted
from clonewood.room import limits_at, own, room, shares, weight_at
from clonewood.wood import Wood
from helper import WoodCase, all_told, comes_to

NO_WORDS = ["", "A", "a b", "a/b", "abcdefghi", ".", None, 7, True, [], ["a"], (), {}, b"a"]
SCRIPT = [
    ("put", "a", "f", 0, [1, 2, 3]), ("folder", "a", "b"), ("put", "a", "b/g", 5, [4] * 20), ("make", "a", "m"),
    ("trim", "a", "b/g", 11), ("clone", "m", "c"), ("hollow", "a", "b/g", 6, 2), ("share", "c", "f", 1, 2, "b/h", 0),
    ("twin", "c", "b/g", "k"), ("sprout", "s"), ("set_limit", "c", "b", 20), ("make", "c", "n"), ("go", "a"),
    ("move", "c", "b", "d"), ("drop", "c", "d/g"), ("make", "c", "o"), ("go", "c"), ("go", "s"), ("go", "n"), ("go", "o"),
    ("go", "m"), ("sprout", "a"), ("folder", "a", "b"),
]


def dark_floor(many=6):
    floor = Floor(many)
    floor.cut_after(0)
    try:
        floor.write(many - 1, 0)
    except PowerGone:
        pass
    return floor


def told_by_top(wood):
    """What a fall leaves as it was: all but what rests, and so is not spare."""
    told = all_told(wood)
    return told[:4] + told[6:] + [wood.floor.read(wood.stamp % 2)]


class Planting(WoodCase):
    def test_planted(self):
        for births in (False, True):
            for many in (4, 600):
                floor = Floor(many)
                wood = planted(floor, "wood", "a", births)
                self.assertIs(type(wood), Wood)
                self.assertIs(wood.floor, floor)
                place = wood.root_of("a")
                self.same(floor.writes(), [place, 1])
                self.assertTrue(2 <= place < many)
                self.same(floor.read(place), ("folder", 1, 0, ()))
                self.same(floor.read(1), ("top", 1, "wood", ((1, 0, ""),), (("a", 1, 0, place, "", 0),)))
                self.same([wood.word, wood.stamp, wood.lying(), wood.resting()], ["wood", 1, [place], []])
                self.same(wood.names_at("a", ""), [])

    def test_by_name_and_by_counts_unless_told(self):
        wood = planted(floor=Floor(6), word="w", name="0", births=False)
        self.same(wood.heads(), [("0", "growth", wood.root_of("0"))])
        self.same(come_up(floor=wood.floor, births=True).heads(), wood.heads())
        self.same(planted(Floor(6), "w", "w").word, "w")

    def test_the_book_is_the_one_that_was_told(self):
        for births, book in ((False, Counts), (True, Births)):
            wood = planted(Floor(6), "w", "a", births)
            self.assertIs(type(wood.book), book)
            self.assertIs(type(come_up(wood.floor, births).book), book)
        self.assertIs(type(planted(Floor(6), "w", "a").book), Counts)
        self.assertIs(type(come_up(wood.floor).book), Counts)

    def test_refusals(self):
        for floor in (Floor(6), dark_floor()):
            for word in NO_WORDS:
                for name in NO_WORDS + ["a"]:
                    self.refused(NoWord, [word], planted, floor, word, name)
                self.refused(NoWord, [word], planted, floor, "w", word)
            self.same(floor.writes(), [])
        self.refused(PowerGone, [], planted, dark_floor(), "w", "a")

    def test_the_power_goes(self):
        for births in (False, True):
            for cut in (0, 1):
                floor = Floor(6)
                floor.cut_after(cut)
                self.refused(PowerGone, [], planted, floor, "w", "a", births)
                self.same(len(floor.writes()), cut)
                self.refused(PowerGone, [], come_up, floor, births)
                floor.power_on()
                self.refused(NoWood, [], come_up, floor, births)
                self.same(planted(floor, "w", "a", births).stamp, 1)
            floor = Floor(6)
            floor.cut_after(2)
            wood = planted(floor, "w", "a", births)
            self.refused(PowerGone, [], wood.folder, "a", "b")


class Finding(WoodCase):
    def alike(self, wood):
        """The wood is found as it is, by counts and by births, and no write is done for it."""
        writes = wood.floor.writes()
        for births in (False, True):
            found = come_up(wood.floor, births)
            self.assertIs(type(found), Wood)
            self.assertIs(found.floor, wood.floor)
            self.same(all_told(found), all_told(wood))
        self.same(wood.floor.writes(), writes)

    def test_found_behind_each_deed(self):
        for births in (False, True):
            wood = planted(Floor(50), "wood", "a", births)
            self.alike(wood)
            for name, *handed in SCRIPT:
                getattr(wood, name)(*handed)
                self.alike(wood)

    def test_each_deed_of_a_wood_that_is_found(self):
        for births in (False, True):
            floor = Floor(50)
            kept = planted(Floor(50), "wood", "a")
            planted(floor, "wood", "a", births)
            for name, *handed in SCRIPT:
                found = come_up(floor, births)
                self.same(getattr(found, name)(*handed), getattr(kept, name)(*handed))
                self.same(all_told(found), all_told(kept))

    def test_a_fall_at_each_write_of_each_deed(self):
        for births in (False, True):
            wood = planted(Floor(50), "wood", "a", births)
            for name, *handed in SCRIPT:
                ahead = wood.floor.copied()
                written, freed = getattr(wood, name)(*handed)
                for cut in range(len(written) + 1):
                    with self.subTest((births, name, cut)):
                        self.fall(ahead.copied(), births, cut, len(written), name, handed)

    def fall(self, floor, births, cut, pieces, name, handed):
        wood = come_up(floor, births)
        due = told_by_top(wood)
        rested = wood.resting()
        floor.cut_after(cut)
        self.refused(PowerGone, [], getattr(wood, name), *handed)
        self.assertTrue(floor.is_dark())
        self.same(len(floor.writes()), cut)
        self.all_down(wood)
        for call, *more in ((own, []), (own, ["x"]), (own, 5), (shares,), (room, "x"), (weight_at, "x", "A"),
                            (limits_at, "x")):
            self.refused(Down, [], call, wood, *more)
        self.refused(PowerGone, [], come_up, floor, births)
        floor.power_on()
        self.all_down(wood)
        for by_births in (births, not births):
            found = come_up(floor, by_births)
            self.same(told_by_top(found), due)
            # Where the top was spoilt, nothing tells what rested.
            self.same(found.resting(), rested if cut < pieces else [])
        self.same(len(getattr(found, name)(*handed)[0]), pieces)
        again = come_up(floor, births)
        self.same(all_told(again), all_told(found))

    def test_a_cut_behind_all_writes(self):
        for births in (False, True):
            wood = planted(Floor(20), "wood", "a", births)
            wood.floor.cut_after(3)
            self.same(len(wood.folder("a", "b")[0]), 2)
            self.alike(wood)
            self.refused(PowerGone, [], wood.make, "a", "m")
            self.all_down(wood)

    def test_falls_one_behind_the_other(self):
        floor = Floor(9)
        planted(floor, "wood", "a")
        for again in range(12):
            for births in (False, True):
                wood = come_up(floor, births)
                self.same([wood.stamp, wood.heads()], [1, [("a", "growth", wood.root_of("a"))]])
                floor.cut_after(again % 4)
                self.refused(PowerGone, [], wood.put, "a", "f", 0, [1])
                floor.power_on()
        found = come_up(floor)
        self.same(found.spare(), sorted(set(range(2, 9)) - set(found.lying())))


class Tops(WoodCase):
    def wood(self):
        wood = planted(Floor(30), "wood", "a")
        wood.put("a", "f", 0, [1])
        wood.make("a", "m")
        wood.put("a", "f", 0, [2])
        before = all_told(wood)
        wood.put("a", "f", 0, [3])
        return wood, before

    def test_the_newest_top_is_not_there(self):
        for births in (False, True):
            for way in ("harm", "lose", "odd"):
                wood, before = self.wood()
                floor, place = wood.floor, wood.stamp % 2
                if way == "odd":
                    floor.write(place, ("top", wood.stamp, "wood", (), (5,)))
                else:
                    getattr(floor, way)(place)
                found = come_up(floor, births)
                self.same([found.stamp, found.heads(), found.lying()], before[1:4])
                self.same(found.cells_at("a", "f"), [2])
                self.same(found.resting(), [])
                self.same(found.spare(), sorted(set(range(2, 30)) - set(found.lying())))

    def test_the_older_top_is_not_there(self):
        for births in (False, True):
            for way in ("harm", "lose"):
                wood, before = self.wood()
                due = told_by_top(wood)
                getattr(wood.floor, way)((wood.stamp + 1) % 2)
                found = come_up(wood.floor, births)
                self.same(told_by_top(found), due)
                self.same(found.resting(), [])
                found.folder("a", "b")
                self.same(come_up(wood.floor, births).resting(), found.resting())

    def test_no_wood(self):
        for births in (False, True):
            self.refused(NoWood, [], come_up, Floor(4), births)
            wood, before = self.wood()
            wood.floor.harm(0)
            wood.floor.lose(1)
            self.refused(NoWood, [], come_up, wood.floor, births)
            self.refused(PowerGone, [], come_up, dark_floor(), births)

    def laid(self, first, second, pieces):
        floor = Floor(12)
        for place, stuff in [(first[1] % 2, first), (second[1] % 2, second), *pieces.items()]:
            floor.write(place, stuff)
        return floor

    def test_what_rests_by_the_second_top(self):
        empty = ("folder", 1, 0, ())
        line = ((1, 0, ""),)
        first = ("top", 8, "w", line, (("a", 1, 0, 3, "", 0),))
        pieces = {2: ("folder", 1, 0, (("f", "file", 4), ("g", "file", 5))), 3: ("folder", 7, 0, (("f", "file", 4),)),
                  4: ("file", 1, 8, ((0, 8, 6, 0),)), 5: ("file", 1, 8, ((0, 8, 7, 0),)), 6: ("cells", 1, (1,) * 8),
                  7: ("cells", 1, (2,) * 8), 8: empty}
        old, new = [2, 4, 5, 6, 7], [3, 4, 6]
        for stamp, due in ((7, [8, new, [2, 5, 7]]), (5, [8, new, []]), (3, [8, new, []]), (9, [9, old, [3]]),
                           (11, [11, old, []])):
            second = ("top", stamp, "w", line, (("a", 1, 0, 2, "", 0),))
            for births in (False, True):
                found = come_up(self.laid(first, second, pieces), births)
                self.same([found.stamp, found.lying(), found.resting()], due)
                self.same(found.spare(), sorted(set(range(2, 12)) - set(found.lying() + found.resting())))
        second = ("top", 7, "w", line, (("a", 1, 0, 2, "", 0),))
        for place in (2, 5, 7):
            for stuff in (None, "spoilt", 0, "x", (), ("cells", 0, (1,)), first, ("folder", 1, 0, (("a", "file", 1),))):
                floor = self.laid(first, second, pieces)
                self.same(come_up(floor).resting(), [2, 5, 7])
                if stuff == "spoilt":
                    floor.harm(place)
                elif stuff is None:
                    floor.lose(place)
                else:
                    floor.write(place, stuff)
                self.same(come_up(floor).resting(), [])
                self.same(come_up(floor, True).resting(), [])

    def test_the_second_top_comes_to_places_beyond_the_floor(self):
        line = ((1, 0, ""),)
        first = ("top", 8, "w", line, (("a", 1, 0, 3, "", 0),))
        second = ("top", 7, "w", line, (("a", 1, 0, 599, "", 0),))
        self.same(come_up(self.laid(first, second, {3: ("folder", 1, 0, ())})).resting(), [])

    def test_the_second_top_has_other_heads(self):
        wood = planted(Floor(20), "w", "a")
        wood.sprout("b")
        wood.folder("b", "c")
        lay = wood.lying()
        wood.go("b")
        self.same(len(wood.resting()), 2)
        for births in (False, True):
            self.same(come_up(wood.floor, births).resting(), wood.resting())
        wood.go("a")
        for births in (False, True):
            found = come_up(wood.floor, births)
            self.same([found.heads(), found.lying(), found.resting()], [[], [], wood.resting()])
        self.assertTrue(set(wood.resting()) < set(lay))


class Lost(WoodCase):
    def floor(self, lines, heads):
        floor = Floor(8)
        floor.write(3, ("folder", 1, 0, ()))
        floor.write(0, ("top", 8, "w", lines, heads))
        return floor

    def test_a_line_that_stands_on_a_make_that_was_lost(self):
        heads = (("b", 5, 0, 3, "", 0), ("k", 1, 0, 3, "", 0), ("z", 5, 6, 3, "w", 6))
        for lines, heads, name in (
            (((1, 0, ""), (5, 3, "")), heads, "b"),
            (((1, 0, ""), (5, 3, "")), heads[1:], "z"),
            (((1, 2, ""), (5, 3, "")), heads[1:], "k"),
            (((1, 2, ""), (5, 3, "k")), heads, "k"),
            (((1, 4294967295, ""), (5, 0, "")), heads, "k"),
            (((1, 0, ""), (5, 1, "")), heads, "b"),
        ):
            floor = self.floor(lines, heads)
            self.refused(Rootless, [name], come_up, floor, True)
            self.same(floor.writes(), [3, 0])
            found = come_up(floor)
            self.same([head[0] for head in found.heads()], [head[0] for head in heads])
            self.same(found.lying(), [3])
            floor.cut_after(0)
            self.refused(PowerGone, [], floor.write, 7, 0)
            self.refused(PowerGone, [], come_up, floor, True)

    def test_it_stands_on_nothing(self):
        found = come_up(self.floor(((5, 3, ""),), (("b", 5, 0, 3, "", 0),)))
        self.same(found.stands_on("b"), None)
        found.folder("b", "c")
        found.make("b", "m")
        self.same(found.stands_on("b"), "m")
        self.same(found.floor.read(0)[3], ((5, 3, ""),))
        found.go("m")
        self.same(found.stands_on("b"), None)
        self.same(found.go("b")[1], sorted(set(found.resting())))
        self.same(found.lying(), [])

    def test_lines_that_stand_well(self):
        heads = (("b", 5, 0, 3, "", 0), ("k", 1, 4, 3, "w", 4))
        for lines in (((1, 0, ""), (5, 4, "k")), ((1, 0, ""), (5, 0, ""))):
            for births in (False, True):
                found = come_up(self.floor(lines, heads), births)
                self.same(found.stands_on("b"), "k" if lines[1][2] else None)
        # A lost line without heads says nothing.
        self.same(come_up(self.floor(((1, 0, ""), (5, 4, "")), heads[1:]), True).stamp, 8)


class Room(WoodCase):
    def test_falls_use_up_no_room(self):
        """Pieces of a deed that was not done are no heads': their places are spare again."""
        floor = Floor(6)
        planted(floor, "w", "a")
        for cut in (1, 2, 1, 2):
            wood = come_up(floor)
            self.same(len(wood.spare()), 3)
            floor.cut_after(cut)
            self.refused(PowerGone, [], wood.folder, "a", "b")
            floor.power_on()
        wood = come_up(floor)
        self.refused(NoRoom, [4, 3], wood.put, "a", "f", 0, [1] * 9)
        self.same(len(wood.put("a", "f", 0, [1] * 8)[0]), 3)
        self.same(sorted(comes_to(floor, [wood.root_of("a")])), wood.lying())


if __name__ == "__main__":
    unittest.main()
