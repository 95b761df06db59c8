"""Knots: what the pieces of a tree bear."""

from clonewood.stretches import MOST_CELLS, PIECE_CELLS, is_row, is_tree_place, places_in
from clonewood.words import is_rising, is_stamp, is_tuple_of, is_within, is_word

MOST_CELL = 999999
MOST_LIMIT = 999
MOST_ENTRIES = 8


class Knot:
    def __init__(self, born):
        self.born = born


class CellsKnot(Knot):
    def __init__(self, born, cells):
        Knot.__init__(self, born)
        self.cells = tuple(cells)

    def kind(self):
        return "cells"

    def stuff(self):
        return ("cells", self.born, self.cells)

    def points(self):
        return []

    def moved(self, places):
        return CellsKnot(self.born, self.cells)


class FileKnot(Knot):
    def __init__(self, born, size, row):
        Knot.__init__(self, born)
        self.size = size
        self.row = tuple(row)

    def kind(self):
        return "file"

    def stuff(self):
        return ("file", self.born, self.size, self.row)

    def points(self):
        return places_in(self.row)

    def moved(self, places):
        row = [(at, long, places.get(place, place), skip) for at, long, place, skip in self.row]
        return FileKnot(self.born, self.size, row)


class FolderKnot(Knot):
    def __init__(self, born, limit, entries):
        Knot.__init__(self, born)
        self.limit = limit
        self.entries = tuple(entries)

    def kind(self):
        return "folder"

    def stuff(self):
        return ("folder", self.born, self.limit, self.entries)

    def points(self):
        return sorted(set([place for name, kind, place in self.entries]))

    def moved(self, places):
        entries = [(name, kind, places.get(place, place)) for name, kind, place in self.entries]
        return FolderKnot(self.born, self.limit, entries)

    def entry(self, name):
        for known, kind, place in self.entries:
            if known == name:
                return (kind, place)
        return None

    def with_entry(self, born, name, kind, place):
        return FolderKnot(born, self.limit, sorted(self.others(name) + [(name, kind, place)]))

    def without_entry(self, born, name):
        return FolderKnot(born, self.limit, self.others(name))

    def with_limit(self, born, many):
        return FolderKnot(born, many, self.entries)

    def others(self, name):
        return [entry for entry in self.entries if entry[0] != name]


def is_cell(thing):
    return is_within(thing, 0, MOST_CELL)


def is_cells_stuff(thing):
    if len(thing) != 3 or not isinstance(thing[2], tuple):
        return False
    return 1 <= len(thing[2]) <= PIECE_CELLS and all([is_cell(cell) for cell in thing[2]])


def is_file_stuff(thing):
    return len(thing) == 4 and is_within(thing[2], 0, MOST_CELLS) and is_row(thing[3], thing[2])


def is_entry(thing):
    if not is_tuple_of(thing, 3):
        return False
    return is_word(thing[0]) and thing[1] in ("folder", "file") and is_tree_place(thing[2])


def is_folder_stuff(thing):
    if len(thing) != 4 or not is_within(thing[2], 0, MOST_LIMIT) or not isinstance(thing[3], tuple):
        return False
    if len(thing[3]) > MOST_ENTRIES or not all([is_entry(entry) for entry in thing[3]]):
        return False
    return is_rising([entry[0] for entry in thing[3]])


def is_knot(thing):
    if not isinstance(thing, tuple) or len(thing) < 2 or not is_stamp(thing[1]):
        return False
    if thing[0] == "cells":
        return is_cells_stuff(thing)
    if thing[0] == "file":
        return is_file_stuff(thing)
    return thing[0] == "folder" and is_folder_stuff(thing)


def knot_of(stuff):
    if stuff[0] == "cells":
        return CellsKnot(stuff[1], stuff[2])
    if stuff[0] == "file":
        return FileKnot(stuff[1], stuff[2], stuff[3])
    return FolderKnot(stuff[1], stuff[2], stuff[3])
