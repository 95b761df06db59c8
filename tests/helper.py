"""What several tests of the program have in common."""

import unittest

from clonewood.errors import WoodError
from clonewood.knots import CellsKnot, FileKnot, FolderKnot

GREATEST = 4294967295
NO_NUMBERS = [True, False, None, "", "4", "a", [], [4], (), (4,), {}, {4: 4}, 4.0, b"4", {4}, object(), len]
NO_PATHS = [
    "/", "a/", "/a", "a//b", "A", "a b", "a\n", "abcdefghi", "a/b/c/d/e/f/g", ".", None, True, False, 0, 7, [], ["a"],
    ("a",), {}, b"a", 1.5,
]


def exact(thing):
    """A thing by which also True and 1, and a list and a tuple, are told apart."""
    if isinstance(thing, (list, tuple)):
        return (type(thing), [exact(part) for part in thing])
    return (type(thing), thing)


class WoodCase(unittest.TestCase):
    def refused(self, error, fields, call, *handed):
        """The call is refused with just this class, and with these fields in the order in which they are told."""
        with self.subTest(repr((error.__name__, fields, handed))):
            with self.assertRaises(WoodError) as taken:
                call(*handed)
            self.assertIs(type(taken.exception), error)
            self.assertEqual(exact(list(vars(taken.exception).values())), exact(list(fields)))

    def same(self, found, due):
        self.assertEqual(exact(found), exact(due))

    def told_anew(self, ask):
        """The list that is told is a new one each time: what is done to one changes nothing of the next."""
        first = ask()
        kept = list(first)
        self.assertIs(type(first), list)
        first.append("more")
        first.reverse()
        self.same(ask(), kept)


def spread(row):
    """Which cell of which piece each cell of a file is: the words of promise 20, one by one."""
    cells = {}
    for at, long, place, skip in row:
        for step in range(long):
            cells[at + step] = (place, skip + step)
    return cells


def is_tidy(row):
    return not any(
        one[0] + one[1] == two[0] and one[2] == two[2] and one[3] + one[1] == two[3] for one, two in zip(row, row[1:])
    )


def folder(entries, born=1, limit=0):
    """A folder knot of a dict of names with (kind, place)."""
    return FolderKnot(born, limit, tuple((name, *entries[name]) for name in sorted(entries)))


def small_forest():
    """A tree, with its root at 2, in which files stand in several folders and rows share pieces.

    a (folder 3)          a/f (file 10)   a/in (folder 4)   a/in/deep (folder 5)   a/in/g (file 11)
    a0 (file 10, as a/f)  b (folder 6, empty)               c (file 12)            c9 (file 13, of size 0)
    """
    return {
        2: folder({"a": ("folder", 3), "a0": ("file", 10), "b": ("folder", 6), "c": ("file", 12), "c9": ("file", 13)}),
        3: folder({"f": ("file", 10), "in": ("folder", 4)}),
        4: folder({"deep": ("folder", 5), "g": ("file", 11)}),
        5: folder({}),
        6: folder({}),
        10: FileKnot(1, 10, ((0, 8, 20, 0), (8, 2, 21, 0))),
        11: FileKnot(1, 12, ((1, 3, 20, 2), (6, 4, 20, 4))),
        12: FileKnot(1, 40, ((3, 2, 22, 1),)),
        13: FileKnot(1, 0, ()),
        20: CellsKnot(1, (1, 2, 3, 4, 5, 6, 7, 8)),
        21: CellsKnot(1, (9, 10)),
        22: CellsKnot(1, (11, 12, 999999)),
    }
