"""Promises 40 to 45, with 3: the book that counts, and the book that goes by births."""

import random
import unittest

from clonewood.births import Births
from clonewood.books import Book, Counts
from helper import WoodCase


def closure(pieces, root):
    found = set()
    waiting = [root]
    while waiting:
        place = waiting.pop()
        if place not in found:
            found.add(place)
            waiting += pieces[place][1]
    return found


class Land:
    """Pieces and lines, and of them what promises 40 to 45 say, reckoned anew each time from the words alone."""

    def __init__(self, pieces=()):
        self.pieces = dict(pieces)
        self.lines = {}
        self.askable = None

    def points(self, place):
        assert self.askable is None or place in self.askable, f"points of {place} are not to be asked"
        return list(self.pieces[place][1])

    def born(self, place):
        assert self.askable is None or place in self.askable, f"the birth of {place} is not to be asked"
        return self.pieces[place][0]

    def heads(self, line):
        """(stamp, root) of each head of a line in order, the growth with the stamp 0."""
        base, makes, root = self.lines[line]
        return sorted(makes.items()) + ([(0, root)] if root is not None else [])

    def roots(self):
        return [root for line in self.lines for stamp, root in self.heads(line)]

    def lying(self):
        return sorted(set().union(*(closure(self.pieces, root) for root in self.roots())))

    def count(self, place):
        return sum(place in self.pieces[one][1] for one in self.lying()) + self.roots().count(place)

    def dead_rows(self):
        rows = {}
        for line in self.lines:
            heads = self.heads(line)
            for at, (stamp, root) in enumerate(heads):
                ahead = closure(self.pieces, heads[at - 1][1]) if at else set()
                rows[(line, stamp)] = sorted(ahead - closure(self.pieces, root))
        return rows

    def stand_anew(self, book, lines):
        for line in lines:
            base, makes, root = self.lines[line]
            handed = sorted(makes.items())
            book.stood(line, base, handed, root)
            handed.clear()
        return book


class BookCase(WoodCase):
    def begin_with(self, pieces):
        self.land = Land(pieces)
        self.books = [Counts(self.land.points, self.land.born), Births(self.land.points, self.land.born)]

    def told(self, deed, change, *handed):
        """A deed told to both books; what they tell is what the land says. Gives what was freed."""
        before = self.land.lying()
        change()
        after = self.land.lying()
        self.land.askable = set(before) | set(after)
        told = [getattr(book, deed)(*handed) for book in self.books]
        self.land.askable = None
        if deed in ("begun", "made", "stood"):
            self.assertEqual(told, [None, None])
            self.assertTrue(set(before) <= set(after))
            told = [[], []]
        for freed in told:
            self.same(freed, sorted(set(before) - set(after)))
        told[0].append(0)
        told[1].append(0)
        self.check(self.books)
        return told[0][:-1]

    def check(self, books):
        counts, births = books
        lying = self.land.lying()
        for book in books:
            self.same(book.lying(), lying)
            for place in [*self.land.pieces, 0, 1, 598, 599]:
                self.assertIs(book.lies(place), place in lying)
        for place in [*self.land.pieces, 0, 1, 598, 599]:
            self.same(counts.count(place), self.land.count(place))
        for (line, stamp), row in self.land.dead_rows().items():
            self.same(births.dead_row(line, stamp), row)

    def begun(self, line, base, root):
        return self.told("begun", lambda: self.land.lines.update({line: [base, {}, root]}), line, base, root)

    def made(self, line, stamp):
        told = self.land.lines[line]
        return self.told("made", lambda: told[1].update({stamp: told[2]}), line, stamp)

    def grown(self, line, root, pieces=()):
        self.land.pieces.update(pieces)
        told = self.land.lines[line]
        return self.told("grown", lambda: told.__setitem__(2, root), line, root)

    def unmade(self, line, stamp):
        def change():
            self.land.lines[line][1].pop(stamp)
            self.leave(line)
        return self.told("unmade", change, line, stamp)

    def ended(self, line):
        def change():
            self.land.lines[line][2] = None
            self.leave(line)
        return self.told("ended", change, line)

    def leave(self, line):
        if not self.land.heads(line):
            self.land.lines.pop(line)

    def made_anew(self, orders):
        for order in orders:
            books = [Counts(self.land.points, self.land.born), Births(self.land.points, self.land.born)]
            for book in books:
                self.land.stand_anew(book, order)
            self.check(books)
            self.books = books


class OneLine(BookCase):
    def setUp(self):
        """A line with the makes 2, 4 and 7, each of which comes to pieces to which the next one doesn't."""
        self.begin_with({10: (1, [11, 12]), 11: (1, [13]), 12: (1, [13, 14]), 13: (1, []), 14: (1, [])})
        self.begun(1, 0, 10)
        self.made(1, 2)
        self.assertEqual(self.grown(1, 20, {20: (3, [11, 21]), 21: (3, [14])}), [])
        self.same(self.births().dead_row(1, 0), [10, 12])
        self.made(1, 4)
        self.same([self.births().dead_row(1, 4), self.births().dead_row(1, 0)], [[10, 12], []])
        self.assertEqual(self.grown(1, 30, {30: (5, [21, 31]), 31: (5, [])}), [])
        self.same(self.births().dead_row(1, 0), [11, 13, 20])
        self.assertEqual(self.grown(1, 40, {40: (6, [21])}), [30, 31])
        self.made(1, 7)

    def births(self):
        return self.books[1]

    def test_both_stand_under_book(self):
        for book in self.books:
            self.assertEqual(type(book).__bases__, (Book,))

    def test_counts(self):
        for place, many in ((10, 1), (11, 2), (12, 1), (13, 2), (14, 2), (20, 1), (21, 2), (40, 2), (30, 0), (99, 0)):
            self.same(self.books[0].count(place), many)

    def test_lies(self):
        for book in self.books:
            self.assertIs(book.lies(20), True)
            self.assertIs(book.lies(30), False)
            self.assertIs(book.lies(99), False)

    def test_one_in_the_midst_goes(self):
        self.assertEqual(self.unmade(1, 4), [20])
        self.same(self.births().dead_row(1, 7), [10, 11, 12, 13])
        self.assertEqual(self.unmade(1, 2), [10, 11, 12, 13])
        self.same(self.births().dead_row(1, 7), [])

    def test_the_first_goes(self):
        self.assertEqual(self.unmade(1, 2), [10, 12])
        self.same(self.births().dead_row(1, 4), [])
        self.assertEqual(self.unmade(1, 4), [11, 13, 20])
        self.assertEqual(self.unmade(1, 7), [])
        self.assertEqual(self.ended(1), [14, 21, 40])
        self.assertEqual(self.books[0].lying() + self.books[1].lying(), [])

    def test_the_last_goes_ahead_of_its_growth(self):
        self.assertEqual(self.grown(1, 50, {50: (8, [])}), [])
        self.same(self.births().dead_row(1, 0), [14, 21, 40])
        self.assertEqual(self.unmade(1, 7), [40])
        self.same(self.births().dead_row(1, 0), [11, 13, 14, 20, 21])

    def test_the_growth_goes_ahead_of_its_makes(self):
        self.assertEqual(self.ended(1), [])
        self.assertEqual(self.unmade(1, 7), [40])
        self.assertEqual(self.unmade(1, 2), [10, 12])
        self.assertEqual(self.unmade(1, 4), [11, 13, 14, 20, 21])

    def test_the_growth_goes_with_pieces_of_its_own(self):
        self.grown(1, 50, {50: (8, [21, 51]), 51: (8, [])})
        self.assertEqual(self.ended(1), [50, 51])

    def test_a_root_that_was_there(self):
        self.assertEqual(self.grown(1, 40), [])
        self.assertEqual(self.grown(1, 21), [])
        self.same(self.births().dead_row(1, 0), [40])
        self.assertEqual(self.grown(1, 14), [])
        self.same(self.births().dead_row(1, 0), [21, 40])

    def test_without_makes_all_that_is_left_is_freed(self):
        for stamp in (2, 4, 7):
            self.unmade(1, stamp)
        self.assertEqual(self.grown(1, 50, {50: (8, [14])}), [21, 40])
        self.same(self.births().dead_row(1, 0), [])

    def test_a_stamp_of_one_that_has_gone(self):
        self.unmade(1, 7)
        self.made(1, 7)
        self.assertEqual(self.grown(1, 14), [])
        self.same(self.births().dead_row(1, 0), [21, 40])

    def test_every_list_is_new(self):
        for book in self.books:
            self.told_anew(book.lying)
        for stamp in (0, 2, 4, 7):
            self.told_anew(lambda: self.births().dead_row(1, stamp))


class SeveralLines(BookCase):
    def setUp(self):
        """Line 1 with the make 2; line 3 on it; line 5 on a make of line 3; line 6 on nothing."""
        self.begin_with({10: (1, [11, 12]), 11: (1, []), 12: (1, [])})
        self.begun(1, 0, 10)
        self.made(1, 2)
        self.begun(3, 2, 10)
        self.assertEqual(self.grown(3, 20, {20: (4, [11, 21]), 21: (4, [])}), [])
        self.made(3, 4)
        self.begun(5, 4, 20)
        self.land.pieces.update({30: (6, [31]), 31: (6, [])})
        self.begun(6, 0, 30)

    def test_what_a_line_leaves_of_its_base(self):
        self.same(self.books[1].dead_row(3, 0), [])
        self.assertEqual(self.grown(5, 40, {40: (7, [21])}), [])
        self.same(self.books[1].dead_row(5, 0), [])
        self.assertEqual(self.grown(5, 41, {41: (8, [])}), [40])

    def test_a_first_make_with_the_stamp_of_its_base(self):
        self.made(5, 4)
        self.grown(5, 40, {40: (7, [21, 42]), 42: (7, [])})
        self.same(self.books[1].dead_row(5, 0), [11, 20])
        self.assertEqual(self.unmade(5, 4), [])
        self.assertEqual(self.ended(5), [40, 42])

    def test_lines_go_from_the_last_one_on(self):
        self.grown(5, 40, {40: (7, [20])})
        self.assertEqual(self.ended(5), [40])
        self.assertEqual(self.ended(3), [])
        self.assertEqual(self.unmade(3, 4), [20, 21])
        self.assertEqual(self.unmade(1, 2), [])
        self.assertEqual(self.ended(1), [10, 11, 12])
        self.assertEqual(self.ended(6), [30, 31])

    def test_a_growth_goes_and_its_line_is_based_on(self):
        self.assertEqual(self.ended(1), [])
        self.assertEqual(self.ended(3), [])
        self.made_anew([[1, 3, 5, 6], [6, 5, 3, 1], [5, 1, 6, 3]])
        self.assertEqual(self.ended(5), [])
        self.assertEqual(self.unmade(3, 4), [20, 21])
        self.assertEqual(self.unmade(1, 2), [10, 11, 12])

    def test_made_anew(self):
        self.grown(3, 50, {50: (7, [51]), 51: (7, [])})
        self.made_anew([[1, 3, 5, 6], [6, 5, 3, 1], [5, 1, 6, 3]])
        self.same(self.books[1].dead_row(3, 0), [11, 20, 21])
        self.assertEqual(self.grown(3, 60, {60: (8, [])}), [50, 51])

    def test_what_is_handed_in_is_kept_as_it_was(self):
        makes = [(2, 10)]
        self.begin_with({10: (1, [11]), 11: (1, [])})
        self.land.lines[1] = [0, {2: 10}, 10]
        for book in self.books:
            book.stood(1, 0, makes, 10)
        self.assertEqual(makes, [(2, 10)])
        makes.append((3, 11))
        self.check(self.books)
        self.made(1, 4)
        self.assertEqual(makes, [(2, 10), (3, 11)])


class AnyDeeds(BookCase):
    def new_pieces(self, old):
        """Some new pieces at places that don't lie, each of which points at some behind it and at some old ones."""
        chance = self.chance
        lying = self.land.lying()
        spare = [place for place in range(2, 120) if place not in lying]
        places = chance.sample(spare[:30], chance.randint(1, 6))
        # Greater than the stamp of each make, but not always than each birth.
        birth = self.newest + chance.randint(1, 3)
        pieces = {}
        for at, place in enumerate(places):
            some = places[at + 1:] + list(old)
            pieces[place] = (birth, sorted(set(chance.sample(some, min(len(some), chance.randint(0, 3))))))
        return places[0], pieces

    def begin(self):
        line = self.next_line = self.next_line + 1
        makes = [(one, stamp) for one, told in self.land.lines.items() for stamp in told[1]]
        if makes and self.chance.random() < 0.7:
            owner, stamp = self.chance.choice(makes)
            self.stands_on[line] = (owner, stamp)
            return self.begun(line, stamp, self.land.lines[owner][1][stamp])
        root, pieces = self.new_pieces([])
        self.land.pieces.update(pieces)
        self.begun(line, 0, root)

    def grow(self, line):
        old = sorted(closure(self.land.pieces, self.land.lines[line][2]))
        if self.chance.random() < 0.1:
            return self.grown(line, self.chance.choice(old))
        root, pieces = self.new_pieces(old)
        self.grown(line, root, pieces)

    def keep(self, line):
        base, makes, root = self.land.lines[line]
        births = [self.land.pieces[place][0] for place in closure(self.land.pieces, root)]
        stamp = max([*births, *(one + 1 for one in makes)]) + self.chance.choice((0, 0, 1))
        self.newest = max(self.newest, stamp)
        self.made(line, stamp)

    def let_go(self):
        needed = [self.stands_on[line] for line in self.land.lines if line in self.stands_on]
        heads = [(line, stamp) for line in self.land.lines for stamp, root in self.land.heads(line)]
        heads = [head for head in heads if head not in needed]
        line, stamp = self.chance.choice(heads)
        if stamp == 0:
            self.ended(line)
        else:
            self.unmade(line, stamp)

    def step(self):
        growing = [line for line, told in self.land.lines.items() if told[2] is not None]
        heads = sum(len(self.land.heads(line)) for line in self.land.lines)
        what = self.chance.random()
        if heads == 0 or what < 0.12 and heads < 12:
            self.begin()
        elif what < 0.5 and growing:
            self.grow(self.chance.choice(growing))
        elif what < 0.72 and growing and heads < 12:
            self.keep(self.chance.choice(growing))
        elif what < 0.77:
            lines = list(self.land.lines)
            self.chance.shuffle(lines)
            self.made_anew([lines, lines[::-1]])
        else:
            self.let_go()

    def test_any_deeds(self):
        for seed in range(12):
            self.chance = random.Random(seed)
            self.begin_with({})
            self.stands_on = {}
            self.newest = 0
            self.next_line = 0
            for again in range(120):
                with self.subTest((seed, again)):
                    self.step()


if __name__ == "__main__":
    unittest.main()
