"""Promises 20 to 26, with 3: stretches and rows."""

import random
import unittest

from clonewood.stretches import (
    cells_of, gaps, is_row, laid, parts, places_in, shifted, split_up, tidied, without,
)
from helper import NO_NUMBERS, WoodCase, is_tidy, spread

# Cells 2 to 5 and 9 to 16 of a file, with holes ahead, between and behind; the last two lie side by side.
PLAIN = [(2, 4, 7, 1), (9, 3, 5, 0), (12, 5, 7, 3)]
FULL = [(0, 8, 2, 0), (8, 8, 3, 0), (16, 8, 4, 0), (24, 8, 5, 0), (32, 8, 6, 0)]


def random_row(chance, low=0, high=40):
    """A row, often not a tidy one, whose stretches lie from low to below high."""
    row = []
    at = low + chance.randrange(3)
    while at < high:
        skip = chance.randrange(8)
        long = min(chance.randint(1, 8 - skip), high - at)
        row.append((at, long, chance.randint(2, 5), skip))
        at += long
        if chance.random() < 0.4 and row[-1][3] + long < 8 and at < high:
            row.append((at, 1, row[-1][2], row[-1][3] + long))
            at += 1
        at += chance.choice((0, 0, 1, 4))
    return row


def random_rows(many=300):
    chance = random.Random(20)
    return [(chance, random_row(chance)) for at in range(many)]


class RowCase(WoodCase):
    def both(self, call, row, *handed):
        """What is told of a row as a list and as a tuple: the same; and the row is as before."""
        kept = list(row)
        told = call(row, *handed)
        self.same(call(tuple(row), *handed), told)
        self.same(row, kept)
        self.told_anew(lambda: call(row, *handed))
        return told


class Parts(RowCase):
    def test_parts(self):
        for low, high, due in (
            (0, 40, PLAIN),
            (2, 17, PLAIN),
            (0, 0, []), (2, 2, []), (4, 4, []), (40, 40, []), (6, 9, []), (17, 40, []), (0, 2, []),
            (3, 5, [(3, 2, 7, 2)]),
            (0, 3, [(2, 1, 7, 1)]),
            (5, 10, [(5, 1, 7, 4), (9, 1, 5, 0)]),
            (11, 13, [(11, 1, 5, 2), (12, 1, 7, 3)]),
            (16, 40, [(16, 1, 7, 7)]),
            (12, 17, [(12, 5, 7, 3)]),
        ):
            with self.subTest((low, high)):
                self.same(self.both(parts, PLAIN, low, high), due)

    def test_parts_of_no_stretches(self):
        self.same(self.both(parts, [], 0, 40), [])

    def test_parts_keep_neighbours_apart(self):
        self.same(parts([(0, 3, 2, 0), (3, 3, 2, 3)], 1, 5), [(1, 2, 2, 1), (3, 2, 2, 3)])

    def test_any_parts(self):
        for chance, row in random_rows():
            low = chance.randint(0, 40)
            high = chance.randint(low, 40)
            told = self.both(parts, row, low, high)
            self.assertEqual(spread(told), {at: cell for at, cell in spread(row).items() if low <= at < high})
            self.assertEqual([piece[0] for piece in told], sorted({piece[0] for piece in told}))
            self.assertEqual(len(told), len([one for one in row if max(one[0], low) < min(one[0] + one[1], high)]))

    def test_without(self):
        for low, high, due in (
            (0, 40, []), (2, 17, []),
            (0, 0, PLAIN), (40, 40, PLAIN), (6, 9, PLAIN), (7, 7, PLAIN), (2, 2, PLAIN), (9, 9, PLAIN),
            (3, 4, [(2, 1, 7, 1), (4, 2, 7, 3), (9, 3, 5, 0), (12, 5, 7, 3)]),
            (4, 4, [(2, 2, 7, 1), (4, 2, 7, 3), (9, 3, 5, 0), (12, 5, 7, 3)]),
            (4, 13, [(2, 2, 7, 1), (13, 4, 7, 4)]),
            (0, 3, [(3, 3, 7, 2), (9, 3, 5, 0), (12, 5, 7, 3)]),
            (16, 40, [(2, 4, 7, 1), (9, 3, 5, 0), (12, 4, 7, 3)]),
        ):
            with self.subTest((low, high)):
                self.same(self.both(without, PLAIN, low, high), due)

    def test_without_the_last_cell_of_a_file(self):
        self.same(self.both(without, FULL, 39, 40), FULL[:4] + [(32, 7, 6, 0)])
        self.same(self.both(without, FULL, 0, 39), [(39, 1, 6, 7)])

    def test_any_without(self):
        for chance, row in random_rows():
            low = chance.randint(0, 40)
            high = chance.randint(low, 40)
            told = self.both(without, row, low, high)
            self.assertEqual(told, parts(row, 0, low) + parts(row, high, 40))
            self.assertEqual(spread(told), {at: cell for at, cell in spread(row).items() if not low <= at < high})


class Shifts(RowCase):
    def test_shifted_both_ways(self):
        self.same(self.both(shifted, PLAIN, 3), [(5, 4, 7, 1), (12, 3, 5, 0), (15, 5, 7, 3)])
        self.same(self.both(shifted, PLAIN, -2), [(0, 4, 7, 1), (7, 3, 5, 0), (10, 5, 7, 3)])
        self.same(self.both(shifted, PLAIN, 23), [(25, 4, 7, 1), (32, 3, 5, 0), (35, 5, 7, 3)])
        self.same(self.both(shifted, PLAIN, 0), PLAIN)
        self.same(self.both(shifted, [], 5), [])

    def test_shifted_and_back(self):
        self.same(shifted(shifted(PLAIN, 11), -11), PLAIN)


class Tidying(RowCase):
    def test_tidied(self):
        for row, due in (
            ([], []),
            (PLAIN, PLAIN),
            ([(0, 2, 9, 1), (2, 3, 9, 3)], [(0, 5, 9, 1)]),
            ([(0, 1, 9, 0), (1, 1, 9, 1), (2, 1, 9, 2), (3, 5, 9, 3)], [(0, 8, 9, 0)]),
            ([(0, 2, 9, 1), (3, 3, 9, 3)], [(0, 2, 9, 1), (3, 3, 9, 3)]),
            ([(0, 2, 9, 1), (2, 3, 8, 3)], [(0, 2, 9, 1), (2, 3, 8, 3)]),
            ([(0, 2, 9, 1), (2, 3, 9, 4)], [(0, 2, 9, 1), (2, 3, 9, 4)]),
            ([(0, 2, 9, 1), (2, 2, 9, 2)], [(0, 2, 9, 1), (2, 2, 9, 2)]),
            ([(0, 2, 9, 3), (2, 2, 9, 1)], [(0, 2, 9, 3), (2, 2, 9, 1)]),
            ([(5, 1, 9, 0), (6, 1, 9, 1), (7, 1, 8, 2), (8, 1, 8, 3)], [(5, 2, 9, 0), (7, 2, 8, 2)]),
        ):
            with self.subTest(row):
                self.same(self.both(tidied, row), due)

    def test_any_tidied(self):
        for chance, row in random_rows():
            told = self.both(tidied, row)
            self.assertTrue(is_tidy(told))
            self.assertEqual(spread(told), spread(row))
            self.assertEqual(tidied(told), told)


class Laying(RowCase):
    def test_laid(self):
        for low, high, new, due in (
            (0, 40, [], []),
            (20, 20, [], PLAIN),
            (4, 4, [], PLAIN),
            (6, 9, [(6, 3, 3, 0)], [(2, 4, 7, 1), (6, 3, 3, 0), (9, 3, 5, 0), (12, 5, 7, 3)]),
            (6, 9, [(7, 1, 3, 5)], [(2, 4, 7, 1), (7, 1, 3, 5), (9, 3, 5, 0), (12, 5, 7, 3)]),
            (3, 5, [(3, 2, 3, 0)], [(2, 1, 7, 1), (3, 2, 3, 0), (5, 1, 7, 4), (9, 3, 5, 0), (12, 5, 7, 3)]),
            (0, 40, [(1, 1, 3, 0), (38, 2, 3, 1)], [(1, 1, 3, 0), (38, 2, 3, 1)]),
            (30, 40, [(39, 1, 3, 0)], PLAIN + [(39, 1, 3, 0)]),
            (0, 2, [(0, 1, 3, 0)], [(0, 1, 3, 0)] + PLAIN),
            (3, 5, [], [(2, 1, 7, 1), (5, 1, 7, 4), (9, 3, 5, 0), (12, 5, 7, 3)]),
        ):
            with self.subTest((low, high, new)):
                self.same(self.both(laid, PLAIN, low, high, new), due)
                self.same(self.both(laid, PLAIN, low, high, tuple(new)), due)

    def test_laid_goes_on_from_what_lies_beside_it(self):
        self.same(laid([(2, 4, 7, 1)], 6, 8, [(6, 2, 7, 5)]), [(2, 6, 7, 1)])
        self.same(laid([(2, 4, 7, 1)], 1, 2, [(1, 1, 7, 0)]), [(1, 5, 7, 0)])
        self.same(laid([(2, 4, 7, 1)], 3, 5, [(3, 1, 7, 2), (4, 1, 7, 3)]), [(2, 4, 7, 1)])
        self.same(laid([(2, 4, 7, 1)], 3, 5, [(4, 1, 7, 3)]), [(2, 1, 7, 1), (4, 2, 7, 3)])
        self.same(laid([(2, 4, 7, 1)], 4, 4, []), [(2, 4, 7, 1)])

    def test_laid_over_a_row_that_is_not_tidy(self):
        self.same(laid([(0, 1, 9, 0), (1, 1, 9, 1)], 10, 11, [(10, 1, 9, 0)]), [(0, 2, 9, 0), (10, 1, 9, 0)])

    def test_any_laid(self):
        for chance, row in random_rows():
            low = chance.randint(0, 40)
            high = chance.randint(low, 40)
            new = random_row(chance, low, high)
            told = self.both(laid, row, low, high, new)
            due = {at: cell for at, cell in spread(row).items() if not low <= at < high}
            due.update(spread(new))
            self.assertEqual(spread(told), due)
            self.assertTrue(is_tidy(told))
            self.assertEqual([one[0] for one in told], sorted(one[0] for one in told))

    def test_the_new_row_is_as_before(self):
        new = [(3, 1, 3, 0), (4, 1, 3, 1)]
        laid(PLAIN, 3, 5, new)
        self.same(new, [(3, 1, 3, 0), (4, 1, 3, 1)])


class Gaps(RowCase):
    def test_gaps(self):
        for row, size, due in (
            ([], 0, []),
            ([], 1, [(0, 1)]),
            ([], 40, [(0, 40)]),
            (PLAIN, 17, [(0, 2), (6, 9)]),
            (PLAIN, 18, [(0, 2), (6, 9), (17, 18)]),
            (PLAIN, 40, [(0, 2), (6, 9), (17, 40)]),
            (FULL, 40, []),
            ([(0, 1, 2, 0)], 1, []),
            ([(1, 1, 2, 0)], 3, [(0, 1), (2, 3)]),
            ([(0, 1, 2, 0), (39, 1, 2, 0)], 40, [(1, 39)]),
        ):
            with self.subTest((row, size)):
                self.same(self.both(gaps, row, size), due)

    def test_any_gaps(self):
        for chance, row in random_rows():
            size = chance.randint(max(one[0] + one[1] for one in row), 40)
            told = self.both(gaps, row, size)
            holes = [at for low, high in told for at in range(low, high)]
            self.assertEqual(holes, [at for at in range(size) if at not in spread(row)])
            self.assertTrue(all(low < high for low, high in told))
            self.assertTrue(all(one[1] < two[0] for one, two in zip(told, told[1:])))

    def test_places(self):
        self.same(self.both(places_in, []), [])
        self.same(self.both(places_in, PLAIN), [5, 7])
        self.same(self.both(places_in, FULL), [2, 3, 4, 5, 6])
        self.same(self.both(places_in, [(0, 1, 999999, 0), (4, 1, 10, 0), (6, 1, 9, 0), (9, 1, 10, 0)]), [9, 10, 999999])


class Cells(RowCase):
    def test_cells_of_a_file(self):
        pieces = {5: (50, 51, 52), 7: [70, 71, 72, 73, 74, 75, 76, 77]}
        told = self.both(cells_of, PLAIN, 20, pieces.get)
        self.same(told, [0, 0, 71, 72, 73, 74, 0, 0, 0, 50, 51, 52, 73, 74, 75, 76, 77, 0, 0, 0])
        self.same(self.both(cells_of, PLAIN, 17, pieces.get), told[:17])
        self.same(pieces, {5: (50, 51, 52), 7: [70, 71, 72, 73, 74, 75, 76, 77]})

    def test_cells_of_holes_alone(self):
        self.same(self.both(cells_of, [], 0, {}.__getitem__), [])
        self.same(self.both(cells_of, [], 40, {}.__getitem__), [0] * 40)

    def test_any_cells(self):
        for chance, row in random_rows(100):
            size = chance.randint(max(one[0] + one[1] for one in row), 40)
            pieces = {place: tuple(place * 10 + at for at in range(8)) for place in range(2, 6)}
            due = [0] * size
            for at, (place, skip) in spread(row).items():
                due[at] = place * 10 + skip
            self.same(self.both(cells_of, row, size, pieces.__getitem__), due)

    def test_split_up(self):
        for at, many, due in (
            (0, 1, [(0, 1)]), (39, 1, [(39, 1)]), (5, 8, [(5, 8)]), (5, 9, [(5, 8), (13, 1)]), (3, 7, [(3, 7)]),
            (0, 40, [(0, 8), (8, 8), (16, 8), (24, 8), (32, 8)]), (1, 39, [(1, 8), (9, 8), (17, 8), (25, 8), (33, 7)]),
        ):
            cells = [999999 - cell for cell in range(many)]
            kept = list(cells)
            with self.subTest((at, many)):
                told = split_up(at, cells)
                self.same(told, [(low, tuple(cells[low - at:low - at + long])) for low, long in due])
                self.same(cells, kept)
                self.told_anew(lambda: split_up(at, cells))
                cells[0] = 5
                self.same(told[0][1][0], 999999)


class IsRow(RowCase):
    def yes(self, row, size):
        with self.subTest(repr((row, size))):
            self.assertIs(is_row(row, size), True)

    def no(self, thing, size=40):
        with self.subTest(repr((thing, size))):
            self.assertIs(is_row(thing, size), False)

    def test_rows(self):
        self.yes((), 0)
        self.yes((), 40)
        self.yes(tuple(PLAIN), 40)
        self.yes(tuple(FULL), 40)
        self.yes(((0, 1, 2, 0), (1, 1, 2, 0)), 2)

    def test_each_number_at_its_bound_and_beyond(self):
        self.yes(((0, 1, 2, 0),), 40)
        self.no(((-1, 1, 2, 0),))
        self.no(((0, 0, 2, 0),))
        self.no(((0, -1, 2, 0),))
        self.no(((4, 1, 2, -1),))
        self.no(((0, 1, 1, 0),))
        self.yes(((0, 1, 599, 0),), 40)
        self.no(((0, 1, 600, 0),))
        self.yes(((0, 8, 2, 0),), 40)
        self.no(((0, 9, 2, 0),))
        self.yes(((0, 1, 2, 7),), 40)
        self.no(((0, 1, 2, 8),))
        self.no(((0, 2, 2, 7),))
        self.yes(((39, 1, 2, 0),), 40)
        self.no(((40, 1, 2, 0),))
        self.no(((33, 8, 2, 0),))
        self.no(((33, 8, 2, 0),), 41)

    def test_within_the_size(self):
        self.yes(tuple(PLAIN), 17)
        self.no(tuple(PLAIN), 16)
        self.no(tuple(PLAIN), 0)
        self.yes(((0, 1, 2, 0),), 1)
        self.no(((0, 1, 2, 0),), 0)

    def test_overlaps_and_order(self):
        self.yes(((0, 4, 2, 0), (4, 4, 3, 0)), 40)
        self.no(((0, 4, 2, 0), (3, 4, 3, 0)))
        self.no(((4, 4, 3, 0), (0, 4, 2, 0)))
        self.no(((0, 4, 2, 0), (0, 4, 2, 0)))
        self.no(((0, 1, 2, 0), (8, 4, 3, 0), (10, 4, 4, 0)))

    def test_tidy(self):
        self.no(((0, 2, 9, 1), (2, 3, 9, 3)))
        self.no(((0, 1, 2, 0), (5, 2, 9, 1), (7, 3, 9, 3)))
        self.yes(((0, 2, 9, 1), (2, 3, 8, 3)), 40)
        self.yes(((0, 2, 9, 1), (2, 3, 9, 4)), 40)
        self.yes(((0, 2, 9, 1), (3, 3, 9, 3)), 40)

    def test_things_of_any_kind(self):
        for thing in [0, 40, -1, "abcd", list(FULL), [], [(0, 1, 2, 0)], [[0, 1, 2, 0]], ([0, 1, 2, 0],)]:
            self.no(thing)
        for thing in NO_NUMBERS:
            if thing != ():
                self.no(thing)
            self.no((thing,))
            self.no(((0, 1, 2, 0), thing))
            for at in range(4):
                stretch = [0, 1, 4, 0]
                stretch[at] = thing
                self.no((tuple(stretch),))
        self.no(((0, 1, 2),))
        self.no(((0, 1, 2, 0, 0),))
        self.no((0, 1, 2, 0))
        self.no(((0, True, 2, 0),))
        self.no(((False, 1, 2, 0),))

    def test_any_row(self):
        for chance, row in random_rows():
            size = chance.randint(20, 40)
            good = is_tidy(row) and all(one[0] + one[1] <= size for one in row)
            self.assertIs(is_row(tuple(row), size), good)
            self.assertIs(is_row(tuple(tidied(parts(row, 0, size))), size), True)


if __name__ == "__main__":
    unittest.main()
