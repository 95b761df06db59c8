"""The desk: a floor and a wood on it, told requests as texts, and answering with texts."""

from clonewood.errors import NoLine, WoodError
from clonewood.floor import Floor
from clonewood.looking import looked, mended
from clonewood.planting import come_up, planted
from clonewood.room import limits_at, own, room, shares, weight_at
from clonewood.rows import line_of, number_of, stuff_of
from clonewood.sending import put_in, sent

MOST_NUMBER = 999999999
MOST_CUT = 1000


def shown(thing):
    return "." if thing == "" else str(thing)


def sentence(first, told):
    return " ".join([first] + [shown(thing) for thing in told])


def counted(done):
    return [len(done[0]), len(done[1])]


def run_together(rows):
    told = []
    for row in rows:
        told.extend(row)
    return told


def do_folder(desk, told):
    return counted(desk.wood.folder(told[0], told[1]))


def do_put(desk, told):
    return counted(desk.wood.put(told[0], told[1], told[2], told[3:]))


def do_trim(desk, told):
    return counted(desk.wood.trim(told[0], told[1], told[2]))


def do_hollow(desk, told):
    return counted(desk.wood.hollow(told[0], told[1], told[2], told[3]))


def do_share(desk, told):
    return counted(desk.wood.share(told[0], told[1], told[2], told[3], told[4], told[5]))


def do_twin(desk, told):
    return counted(desk.wood.twin(told[0], told[1], told[2]))


def do_drop(desk, told):
    return counted(desk.wood.drop(told[0], told[1]))


def do_move(desk, told):
    return counted(desk.wood.move(told[0], told[1], told[2]))


def do_limit(desk, told):
    return counted(desk.wood.set_limit(told[0], told[1], told[2]))


def do_make(desk, told):
    return counted(desk.wood.make(told[0], told[1]))


def do_clone(desk, told):
    return counted(desk.wood.clone(told[0], told[1]))


def do_sprout(desk, told):
    return counted(desk.wood.sprout(told[0]))


def do_go(desk, told):
    return counted(desk.wood.go(told[0]))


def do_receive(desk, told):
    return counted(put_in(desk.wood, told[0], told[2:], told[1]))


def tell_heads(desk, told):
    return run_together([(name, kind) for name, kind, root in desk.wood.heads()])


def tell_stands(desk, told):
    make = desk.wood.stands_on(told[0])
    return [] if make is None else [make]


def tell_mark(desk, told):
    return list(desk.wood.mark_of(told[0]))


def tell_lying(desk, told):
    return [len(desk.wood.lying())]


def tell_spare(desk, told):
    return [len(desk.wood.spare())]


def tell_kind(desk, told):
    return [desk.wood.kind_at(told[0], told[1])]


def tell_size(desk, told):
    return [desk.wood.size_at(told[0], told[1])]


def tell_names(desk, told):
    return desk.wood.names_at(told[0], told[1])


def tell_cells(desk, told):
    return desk.wood.cells_at(told[0], told[1])


def tell_weight(desk, told):
    return [weight_at(desk.wood, told[0], told[1])]


def tell_room(desk, told):
    return list(room(desk.wood, told[0]))


def tell_own(desk, told):
    return [len(own(desk.wood, told))]


def tell_shares(desk, told):
    return run_together([(",".join(names), many) for names, many in shares(desk.wood)])


def tell_limits(desk, told):
    return run_together(limits_at(desk.wood, told[0]))


def tell_sent(desk, told):
    first = None if told[0] == "." else told[0]
    return [line_of(row) for row in sent(desk.wood, first, told[1])]


def do_cut(desk, told):
    desk.floor.cut_after(told[0])
    return []


def do_light(desk, told):
    desk.floor.power_on()
    return []


def do_up(desk, told):
    desk.wood = come_up(desk.floor, desk.births)
    return []


def do_harm(desk, told):
    desk.floor.harm(desk.wood.seek_at(told[0], told[1])[1])
    return []


def do_lose(desk, told):
    desk.floor.lose(desk.wood.seek_at(told[0], told[1])[1])
    return []


def tell_look(desk, told):
    found = looked(desk.floor)
    return [len(found[1])] + found[2]


def do_mend(desk, told):
    desk.wood = mended(desk.floor, desk.births)
    return []


# By each request's name: the kinds of the words behind it, the kind of those that may follow as often as one likes, and
# what is done. The kinds are h, a name of a head, p, a path, n, a number, c, a number of writes, and r, a row.
REQUESTS = {
    "folder": ("hp", "", do_folder),
    "put": ("hpnn", "n", do_put),
    "trim": ("hpn", "", do_trim),
    "hollow": ("hpnn", "", do_hollow),
    "share": ("hpnnpn", "", do_share),
    "twin": ("hpp", "", do_twin),
    "drop": ("hp", "", do_drop),
    "move": ("hpp", "", do_move),
    "limit": ("hpn", "", do_limit),
    "make": ("hh", "", do_make),
    "clone": ("hh", "", do_clone),
    "sprout": ("h", "", do_sprout),
    "go": ("h", "", do_go),
    "receive": ("hh", "r", do_receive),
    "heads": ("", "", tell_heads),
    "stands": ("h", "", tell_stands),
    "mark": ("h", "", tell_mark),
    "lying": ("", "", tell_lying),
    "spare": ("", "", tell_spare),
    "kind": ("hp", "", tell_kind),
    "size": ("hp", "", tell_size),
    "names": ("hp", "", tell_names),
    "cells": ("hp", "", tell_cells),
    "weight": ("hp", "", tell_weight),
    "room": ("h", "", tell_room),
    "own": ("", "h", tell_own),
    "shares": ("", "", tell_shares),
    "limits": ("h", "", tell_limits),
    "send": ("hh", "", tell_sent),
    "cut": ("c", "", do_cut),
    "light": ("", "", do_light),
    "up": ("", "", do_up),
    "harm": ("hp", "", do_harm),
    "lose": ("hp", "", do_lose),
    "look": ("", "", tell_look),
    "mend": ("", "", do_mend),
}


def need_number(word, most):
    number = number_of(word, most)
    if number is None:
        raise NoLine(word)
    return number


def read_word(kind, word):
    if kind == "p":
        return "" if word == "." else word
    if kind == "n":
        return need_number(word, MOST_NUMBER)
    if kind == "c":
        return need_number(word, MOST_CUT)
    return stuff_of(word) if kind == "r" else word


def read_words(first_kinds, further_kind, words):
    further = len(words) - len(first_kinds)
    if further < 0 or further > 0 and further_kind == "":
        raise NoLine(" ".join(words))
    return [read_word(kind, word) for kind, word in zip(first_kinds + further_kind * further, words)]


class Desk:
    def __init__(self, many, word, name, births=False):
        self.floor = Floor(many)
        self.wood = planted(self.floor, word, name, births)
        self.births = births

    def say(self, request):
        try:
            return sentence("ok", self.answer(request))
        except NoLine:
            return "no NoLine"
        except WoodError as refusal:
            return sentence("no", refusal.told())

    def answer(self, request):
        words = request.split(" ")
        if "" in words or words[0] not in REQUESTS:
            raise NoLine(request)
        found = REQUESTS[words[0]]
        told = read_words(found[0], found[1], words[1:])
        do = found[2]
        return do(self, told)
