"""Deeds on a tree: each makes new knots, from the changed place up to the top folder, and changes none."""

from clonewood.errors import Crowded, NoCells, NoPath, NoSpan, NotFile, NotFolder, NotThere
from clonewood.errors import Over, There, TooDeep, Within
from clonewood.knots import MOST_ENTRIES, MOST_LIMIT, CellsKnot, FileKnot, FolderKnot, is_cell
from clonewood.stretches import MOST_CELLS, laid, parts, shifted, split_up, without
from clonewood.trees import found_at, height, over
from clonewood.words import MOST_NAMES, is_within, names_of, path_of

FIRST_NEW = 1000


def names_below_top(path):
    names = names_of(path)
    if not names:
        raise NoPath(path)
    return names


def need_span(at, long):
    if not is_within(at, 0, MOST_CELLS) or not is_within(long, 1, MOST_CELLS - at):
        raise NoSpan(at, long)


def need_cells(cells):
    if not isinstance(cells, list) or not 1 <= len(cells) <= MOST_CELLS:
        raise NoCells()
    if not all([is_cell(cell) for cell in cells]):
        raise NoCells()


def need_within_size(knot, at, long):
    if at + long > knot.size:
        raise NoSpan(at, long)


class Deed:
    def __init__(self, look, root, now):
        self.look = look
        self.root = root
        self.now = now
        # The new knots by their places, also those to which the root comes no more.
        self.fresh = {}

    def folder(self, path):
        names = names_below_top(path)
        self.need_spot(path, names, 0)
        self.hang(names, "folder", self.grow(FolderKnot(self.now, 0, ())))

    def bare_file(self, path, size):
        names = names_below_top(path)
        self.need_spot(path, names, 0)
        self.hang_file(names, size, [])

    def drop(self, path):
        names = names_below_top(path)
        self.need_there(path, names)
        self.take_down(names)

    def put(self, path, at, cells):
        names = names_below_top(path)
        need_cells(cells)
        need_span(at, len(cells))
        knot = self.file_to_fill(path, names)
        row = []
        for begin, some in split_up(at, cells):
            row.append((begin, len(some), self.grow(CellsKnot(self.now, some)), 0))
        self.fill(names, knot, at, at + len(cells), row)

    def trim(self, path, size):
        names = names_below_top(path)
        if not is_within(size, 0, MOST_CELLS):
            raise NoSpan(0, size)
        knot = self.view(self.need_file(path, names))
        self.hang_file(names, size, parts(knot.row, 0, size))

    def hollow(self, path, at, long):
        names = names_below_top(path)
        need_span(at, long)
        knot = self.view(self.need_file(path, names))
        need_within_size(knot, at, long)
        self.hang_file(names, knot.size, without(knot.row, at, at + long))

    def share(self, path, at, long, to, to_at):
        names = names_below_top(path)
        to_names = names_below_top(to)
        need_span(at, long)
        need_span(to_at, long)
        knot = self.view(self.need_file(path, names))
        need_within_size(knot, at, long)
        to_knot = self.file_to_fill(to, to_names)
        row = shifted(parts(knot.row, at, at + long), to_at - at)
        self.fill(to_names, to_knot, to_at, to_at + long, row)

    def twin(self, path, to):
        names = names_below_top(path)
        to_names = names_below_top(to)
        place = self.need_file(path, names)
        self.need_spot(to, to_names, 0)
        self.hang(to_names, "file", place)

    def move(self, path, to):
        names = names_below_top(path)
        to_names = names_below_top(to)
        moving = self.need_there(path, names)
        if to_names[:len(names)] == names:
            raise Within(to)
        # What is moved within one folder leaves its own entry there.
        self.need_spot(to, to_names, 1 if names[:-1] == to_names[:-1] else 0)
        if len(to_names) + height(lambda place: self.view(place), moving[1]) > MOST_NAMES:
            raise TooDeep(to)
        self.take_down(names)
        self.hang(to_names, moving[0], moving[1])

    def set_limit(self, path, many):
        names = names_of(path)
        if not is_within(many, 0, MOST_LIMIT):
            raise NoSpan(0, many)
        there = self.need_there(path, names)
        if there[0] != "folder":
            raise NotFolder(path)
        self.hang(names, "folder", self.grow(self.view(there[1]).with_limit(self.now, many)))

    def need_limits(self):
        heavy = over(lambda place: self.view(place), self.root)
        if heavy is not None:
            raise Over(heavy[0], heavy[1])

    def view(self, place):
        if place in self.fresh:
            return self.fresh[place]
        look = self.look
        return look(place)

    def news(self):
        told = {}
        self.tell_news(self.root, told)
        return list(told)

    def settled(self, places):
        news = self.news()
        moves = dict(zip(news, places))
        pieces = [(moves[place], self.view(place).moved(moves).stuff()) for place in news]
        return (pieces, moves.get(self.root, self.root))

    def tell_news(self, place, told):
        if place in self.fresh and place not in told:
            for point in self.view(place).points():
                self.tell_news(point, told)
            told[place] = True

    def standing(self, names):
        return found_at(lambda place: self.view(place), self.root, names)

    def need_there(self, path, names):
        there = self.standing(names)
        if there is None:
            raise NotThere(path)
        return there

    def need_file(self, path, names):
        there = self.need_there(path, names)
        if there[0] != "file":
            raise NotFile(path)
        return there[1]

    def need_folder_of(self, path, names):
        there = self.standing(names[:-1])
        if there is None or there[0] != "folder":
            raise NotThere(path)
        return self.view(there[1])

    def need_spot(self, path, names, leaving):
        above = self.need_folder_of(path, names)
        if above.entry(names[-1]) is not None:
            raise There(path)
        if len(above.entries) - leaving >= MOST_ENTRIES:
            raise Crowded(path_of(names[:-1]))

    def file_to_fill(self, path, names):
        if self.standing(names) is not None:
            return self.view(self.need_file(path, names))
        self.need_spot(path, names, 0)
        return FileKnot(self.now, 0, ())

    def fill(self, names, knot, low, high, row):
        self.hang_file(names, max(knot.size, high), laid(knot.row, low, high, row))

    def hang_file(self, names, size, row):
        self.hang(names, "file", self.grow(FileKnot(self.now, size, row)))

    def take_down(self, names):
        above = self.view(self.standing(names[:-1])[1])
        self.hang(names[:-1], "folder", self.grow(above.without_entry(self.now, names[-1])))

    def hang(self, names, kind, place):
        hung = (kind, place)
        for many in range(len(names) - 1, -1, -1):
            above = self.view(self.standing(names[:many])[1])
            hung = ("folder", self.grow(above.with_entry(self.now, names[many], hung[0], hung[1])))
        self.root = hung[1]

    def grow(self, knot):
        place = FIRST_NEW + len(self.fresh)
        self.fresh[place] = knot
        return place
