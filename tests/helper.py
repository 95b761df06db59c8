"""What several tests of the program have in common."""

import unittest

from clonewood.errors import Down, WoodError
from clonewood.knots import CellsKnot, FileKnot, FolderKnot

GREATEST = 4294967295
NO_NUMBERS = [True, False, None, "", "4", "a", [], [4], (), (4,), {}, {4: 4}, 4.0, b"4", {4}, object(), len]
NO_PATHS = [
    "/", "a/", "/a", "a//b", "A", "a b", "a\n", "abcdefghi", "a/b/c/d/e/f/g", ".", None, True, False, 0, 7, [], ["a"],
    ("a",), {}, b"a", 1.5,
]


def exact(thing):
    """A thing by which also True and 1, and a list and a tuple, are told apart."""
    if isinstance(thing, (list, tuple)):
        return (type(thing), [exact(part) for part in thing])
    return (type(thing), thing)


class WoodCase(unittest.TestCase):
    def refused(self, error, fields, call, *handed):
        """The call is refused with just this class, and with these fields in the order in which they are told."""
        with self.subTest(repr((error.__name__, fields, handed))):
            with self.assertRaises(WoodError) as taken:
                call(*handed)
            self.assertIs(type(taken.exception), error)
            self.assertEqual(exact(list(vars(taken.exception).values())), exact(list(fields)))

    def same(self, found, due):
        self.assertEqual(exact(found), exact(due))

    def told_anew(self, ask):
        """The list that is told is a new one each time: what is done to one changes nothing of the next."""
        first = ask()
        kept = list(first)
        self.assertIs(type(first), list)
        first.append("more")
        first.reverse()
        self.same(ask(), kept)

    def all_down(self, wood):
        """Every method of the wood refuses with Down, whatever is handed in."""
        for call, *handed in calls_of(wood):
            self.refused(Down, [], call, *handed)

    def kept(self, wood, error, fields, call, *handed):
        """The call is refused, changes nothing of the wood and its floor, and nothing of what was handed in."""
        before = [all_told(wood), wood.floor.writes(), wood.floor.is_dark(), repr(handed)]
        self.refused(error, fields, call, *handed)
        self.same([all_told(wood), wood.floor.writes(), wood.floor.is_dark(), repr(handed)], before)


def spread(row):
    """Which cell of which piece each cell of a file is: the words of promise 20, one by one."""
    cells = {}
    for at, long, place, skip in row:
        for step in range(long):
            cells[at + step] = (place, skip + step)
    return cells


def is_tidy(row):
    return not any(
        one[0] + one[1] == two[0] and one[2] == two[2] and one[3] + one[1] == two[3] for one, two in zip(row, row[1:])
    )


def folder(entries, born=1, limit=0):
    """A folder knot of a dict of names with (kind, place)."""
    return FolderKnot(born, limit, tuple((name, *entries[name]) for name in sorted(entries)))


def small_forest():
    """A tree, with its root at 2, in which files stand in several folders and rows share pieces.

    a (folder 3)          a/f (file 10)   a/in (folder 4)   a/in/deep (folder 5)   a/in/g (file 11)
    a0 (file 10, as a/f)  b (folder 6, empty)               c (file 12)            c9 (file 13, of size 0)
    """
    return {
        2: folder({"a": ("folder", 3), "a0": ("file", 10), "b": ("folder", 6), "c": ("file", 12), "c9": ("file", 13)}),
        3: folder({"f": ("file", 10), "in": ("folder", 4)}),
        4: folder({"deep": ("folder", 5), "g": ("file", 11)}),
        5: folder({}),
        6: folder({}),
        10: FileKnot(1, 10, ((0, 8, 20, 0), (8, 2, 21, 0))),
        11: FileKnot(1, 12, ((1, 3, 20, 2), (6, 4, 20, 4))),
        12: FileKnot(1, 40, ((3, 2, 22, 1),)),
        13: FileKnot(1, 0, ()),
        20: CellsKnot(1, (1, 2, 3, 4, 5, 6, 7, 8)),
        21: CellsKnot(1, (9, 10)),
        22: CellsKnot(1, (11, 12, 999999)),
    }


def points_in(stuff):
    """The places at which a piece points, by the words of promises 30 and 31."""
    if stuff[0] == "folder":
        return {place for name, kind, place in stuff[3]}
    return {place for at, long, place, skip in stuff[3]} if stuff[0] == "file" else set()


def comes_to(floor, roots):
    """All places to which one comes from the roots, by the floor alone."""
    seen = set()
    waiting = list(roots)
    while waiting:
        place = waiting.pop()
        if place not in seen:
            seen.add(place)
            waiting.extend(points_in(floor.read(place)))
    return seen


def read_tree(floor, root, path=""):
    """What a tree reads as, by the floor alone: a dict of paths, folders as None, files as lists of cells."""
    found = {path: None}
    for name, kind, place in floor.read(root)[3]:
        below = f"{path}/{name}" if path else name
        if kind == "folder":
            found.update(read_tree(floor, place, below))
        else:
            stuff = floor.read(place)
            cells = spread(stuff[3])
            found[below] = [floor.read(cells[at][0])[2][cells[at][1]] if at in cells else 0 for at in range(stuff[2])]
    return found


def read_head(wood, name, path=""):
    """What a head reads as, by what the wood tells of its paths."""
    found = {}
    if wood.kind_at(name, path) == "file":
        found[path] = wood.cells_at(name, path)
        assert len(found[path]) == wood.size_at(name, path)
        return found
    found[path] = None
    for word in wood.names_at(name, path):
        found.update(read_head(wood, name, f"{path}/{word}" if path else word))
    return found


def all_told(wood):
    """All that a wood tells of itself, its heads and its places."""
    told = [wood.word, wood.stamp, wood.heads(), wood.lying(), wood.resting(), wood.spare()]
    for name, kind, root in wood.heads():
        told.append(wood.stands_on(name) if kind == "growth" else wood.mark_of(name))
    return told + [read_head(wood, name) for name, kind, root in wood.heads()]


def calls_of(wood, deed=None):
    """Every method of a wood that the interface names, each with something that it would refuse, or not."""
    return [
        (wood.folder, "a", "x"), (wood.put, "a", "x", 0, [1]), (wood.trim, "a", "x", 99), (wood.hollow, "a", "", 0, 1),
        (wood.share, "a", "x", 0, 1, "y", 0), (wood.twin, "a", "x", "y"), (wood.drop, "zz", "x"), (wood.move, "a", 5, 6),
        (wood.set_limit, "a", "", 0), (wood.make, "a", "new"), (wood.clone, "nobody", "B!"), (wood.sprout, None),
        (wood.go, "a"), (wood.take_in, "a", deed, "a", "", 0), (wood.need_take, "nobody", ""), (wood.begin, "a"),
        (wood.heads,), (wood.root_of, "a"), (wood.mark_of, "a"), (wood.stands_on, []), (wood.kind_at, "a", ""),
        (wood.names_at, "a", ""), (wood.size_at, "a", None), (wood.cells_at, "a", "A"), (wood.knot_at, -1),
        (wood.piece, 10000), (wood.lying,), (wood.resting,), (wood.spare,),
    ]
