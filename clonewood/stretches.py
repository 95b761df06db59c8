"""Stretches: which cells of a file are which cells of which data piece.

A stretch is a tuple (at, long, place, skip), a row a list or a tuple of stretches.
"""

from clonewood.words import is_tuple_of, is_whole, is_within

MOST_CELLS = 40
PIECE_CELLS = 8
FIRST_PLACE = 2
LAST_PLACE = 599
AT = 0
LONG = 1
PLACE = 2
SKIP = 3


def end_of(stretch):
    return stretch[AT] + stretch[LONG]


def end_in_piece(stretch):
    return stretch[SKIP] + stretch[LONG]


def parts(row, low, high):
    cut = []
    for at, long, place, skip in row:
        begin = max(at, low)
        end = min(at + long, high)
        if begin < end:
            cut.append((begin, end - begin, place, skip + begin - at))
    return cut


def without(row, low, high):
    return parts(row, 0, low) + parts(row, high, MOST_CELLS)


def shifted(row, by):
    return [(at + by, long, place, skip) for at, long, place, skip in row]


def goes_on(ahead, stretch):
    if end_of(ahead) != stretch[AT] or ahead[PLACE] != stretch[PLACE]:
        return False
    return end_in_piece(ahead) == stretch[SKIP]


def joined(ahead, stretch):
    return (ahead[AT], ahead[LONG] + stretch[LONG], ahead[PLACE], ahead[SKIP])


def tidied(row):
    tidy = []
    for stretch in row:
        if tidy and goes_on(tidy[-1], stretch):
            tidy[-1] = joined(tidy[-1], stretch)
        else:
            tidy.append(stretch)
    return tidy


def laid(row, low, high, new):
    both = without(row, low, high) + list(new)
    return tidied(sorted(both, key=lambda stretch: stretch[AT]))


def gaps(row, size):
    spans = []
    end = 0
    for stretch in parts(row, 0, size):
        if end < stretch[AT]:
            spans.append((end, stretch[AT]))
        end = end_of(stretch)
    if end < size:
        spans.append((end, size))
    return spans


def places_in(row):
    return sorted(set([stretch[PLACE] for stretch in row]))


def cells_of(row, size, fetch):
    cells = [0] * size
    for at, long, place, skip in parts(row, 0, size):
        piece = fetch(place)
        for step in range(long):
            cells[at + step] = piece[skip + step]
    return cells


def split_up(at, cells):
    return [(at + low, tuple(cells[low:low + PIECE_CELLS])) for low in range(0, len(cells), PIECE_CELLS)]


def is_tree_place(thing):
    return is_within(thing, FIRST_PLACE, LAST_PLACE)


def is_stretch(thing):
    if not is_tuple_of(thing, 4) or not all([is_whole(number) for number in thing]):
        return False
    if thing[AT] < 0 or thing[LONG] < 1 or thing[SKIP] < 0:
        return False
    if end_of(thing) > MOST_CELLS or end_in_piece(thing) > PIECE_CELLS:
        return False
    return is_tree_place(thing[PLACE])


def is_row(thing, size):
    if not isinstance(thing, tuple) or not all([is_stretch(part) for part in thing]):
        return False
    for ahead, stretch in zip(thing, thing[1:]):
        if end_of(ahead) > stretch[AT] or goes_on(ahead, stretch):
            return False
    return all([end_of(stretch) <= size for stretch in thing])
