"""The rows by which a make is sent, and rows put in at a growth."""

from clonewood.changes import changes
from clonewood.checks import check_of
from clonewood.errors import BadRow, Crowded, NoBase, NoPath, NoSpan, NotFile, NotThere, There
from clonewood.growing import names_below_top, need_within_size
from clonewood.knots import is_cell
from clonewood.stretches import MOST_CELLS
from clonewood.trees import seek_file
from clonewood.words import is_stamp, is_tuple_of, is_whole, is_within, is_word


def sent(wood, first, second):
    first_mark = ("", 0) if first is None else wood.mark_of(first)
    second_mark = wood.mark_of(second)
    one = None if first is None else wood.root_of(first)
    told = changes(lambda place: wood.knot_at(place), one, wood.root_of(second))
    stuffs = [("begin", first_mark, second_mark)] + told + [("end", len(told) + 2)]
    return [(at, stuff, check_of((at, stuff))) for at, stuff in enumerate(stuffs)]


def is_mark(thing):
    return is_tuple_of(thing, 2) and is_word(thing[0]) and is_stamp(thing[1])


def is_no_mark(thing):
    return is_tuple_of(thing, 2) and thing[0] == "" and is_within(thing[1], 0, 0)


def is_begin(thing):
    if not is_tuple_of(thing, 3) or thing[0] != "begin":
        return False
    return (is_mark(thing[1]) or is_no_mark(thing[1])) and is_mark(thing[2])


def is_end(thing, many):
    return is_tuple_of(thing, 2) and thing[0] == "end" and is_within(thing[1], many, many)


def is_below_top(thing):
    try:
        names_below_top(thing)
    except NoPath:
        return False
    return True


def is_run(at, cells):
    if not is_within(at, 0, MOST_CELLS - 1) or not isinstance(cells, tuple):
        return False
    return 1 <= len(cells) <= MOST_CELLS - at and all([is_cell(cell) for cell in cells])


def is_change(thing):
    if not isinstance(thing, tuple) or len(thing) < 2 or not is_below_top(thing[1]):
        return False
    if thing[0] in ("gone", "folder"):
        return len(thing) == 2
    if thing[0] in ("file", "size"):
        return len(thing) == 3 and is_within(thing[2], 0, MOST_CELLS)
    return thing[0] == "cells" and len(thing) == 4 and is_run(thing[2], thing[3])


def can_stand(stuff, at):
    if at == 0:
        return is_begin(stuff)
    return is_end(stuff, at + 1) or is_change(stuff)


def is_row_at(thing, at):
    if not is_tuple_of(thing, 3) or not is_within(thing[0], at, at) or not can_stand(thing[1], at):
        return False
    return is_whole(thing[2]) and thing[2] == check_of((at, thing[1]))


def need_rows(rows):
    if not isinstance(rows, list):
        raise BadRow(0)
    ended = False
    for at, row in enumerate(rows):
        if ended or not is_row_at(row, at):
            raise BadRow(at)
        ended = row[1][0] == "end"
    if not ended:
        raise BadRow(len(rows))


def is_base(wood, growth, mark):
    make = wood.stands_on(growth)
    if mark[0] == "":
        return make is None and wood.names_at(growth, "") == []
    return make is not None and wood.mark_of(make) == mark and wood.root_of(make) == wood.root_of(growth)


def put_cells(deed, path, at, cells):
    need_within_size(seek_file(lambda place: deed.view(place), deed.root, path), at, len(cells))
    deed.put(path, at, list(cells))


def alter(deed, change):
    if change[0] == "gone":
        deed.drop(change[1])
    elif change[0] == "folder":
        deed.folder(change[1])
    elif change[0] == "file":
        deed.bare_file(change[1], change[2])
    elif change[0] == "size":
        deed.trim(change[1], change[2])
    else:
        put_cells(deed, change[1], change[2], change[3])


def put_in(wood, growth, rows, name):
    wood.need_take(growth, name)
    need_rows(rows)
    base = rows[0][1][1]
    mark = rows[0][1][2]
    if not is_base(wood, growth, base):
        raise NoBase(base[0], base[1])
    deed = wood.begin(growth)
    for at, change, check in rows[1:-1]:
        try:
            alter(deed, change)
        except (NotThere, There, Crowded, NotFile, NoSpan):
            raise BadRow(at)
    return wood.take_in(growth, deed, name, mark[0], mark[1])
