"""Heads, and the tops by which a floor tells them."""

from clonewood.errors import NoPiece, NoWood, Spoilt
from clonewood.stretches import is_tree_place
from clonewood.words import GREATEST, is_rising, is_stamp, is_tuple_of, is_within, is_word

MOST_HEADS = 12


class Head:
    def __init__(self, name, line, stamp, root, word, mark):
        self.name = name
        self.line = line
        self.stamp = stamp
        self.root = root
        self.word = word
        self.mark = mark

    def kind(self):
        return "growth" if self.stamp == 0 else "make"

    def told(self):
        return (self.name, self.line, self.stamp, self.root, self.word, self.mark)


def head_of(told):
    return Head(told[0], told[1], told[2], told[3], told[4], told[5])


def top_of(stamp, word, lines, heads):
    return ("top", stamp, word, tuple(lines), tuple(heads))


def is_number(thing):
    return is_within(thing, 0, GREATEST)


def is_line(thing):
    if not is_tuple_of(thing, 3) or not is_number(thing[0]) or not is_number(thing[1]):
        return False
    return thing[2] == "" or is_word(thing[2])


def is_head(thing):
    if not is_tuple_of(thing, 6) or not is_word(thing[0]) or not is_number(thing[1]):
        return False
    if not is_number(thing[2]) or not is_tree_place(thing[3]) or not is_number(thing[5]):
        return False
    if thing[2] == 0:
        return thing[4] == "" and thing[5] == 0
    return is_word(thing[4]) and is_stamp(thing[5])


def are_lines(thing):
    if not isinstance(thing, tuple) or not all([is_line(part) for part in thing]):
        return False
    return is_rising([line[0] for line in thing])


def are_heads(thing, lines):
    if not isinstance(thing, tuple) or len(thing) > MOST_HEADS or not all([is_head(part) for part in thing]):
        return False
    known = [line[0] for line in lines]
    return is_rising([head[0] for head in thing]) and all([head[1] in known for head in thing])


def is_top(thing, place):
    if not is_tuple_of(thing, 5) or thing[0] != "top":
        return False
    if not is_stamp(thing[1]) or thing[1] % 2 != place or not is_word(thing[2]):
        return False
    return are_lines(thing[3]) and are_heads(thing[4], thing[3])


def top_at(floor, place):
    try:
        stuff = floor.read(place)
    except (NoPiece, Spoilt):
        return None
    return stuff if is_top(stuff, place) else None


def tops_of(floor):
    tops = [top_at(floor, 0), top_at(floor, 1)]
    return sorted([top for top in tops if top is not None], key=lambda top: top[1], reverse=True)


def need_tops(floor):
    tops = tops_of(floor)
    if not tops:
        raise NoWood()
    return tops
