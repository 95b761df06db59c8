"""The looker, which tells what is bad on a floor, and the mender, which gives a wood of the heads that are whole.

A way is a tuple (place, kind, many): at the place a knot of the kind is due, of many cells where it is a cells knot.
"""

from clonewood.errors import NoPiece, NoPlace, Spoilt
from clonewood.heads import need_tops, top_of
from clonewood.knots import is_knot
from clonewood.planting import come_up, need_origins
from clonewood.stretches import PLACE, end_in_piece


def is_due(stuff, kind, many):
    if not is_knot(stuff) or stuff[0] != kind:
        return False
    return kind != "cells" or len(stuff[2]) >= many


def fault_on(floor, way):
    try:
        stuff = floor.read(way[0])
    except Spoilt:
        return "spoilt"
    except (NoPiece, NoPlace):
        return "nothing"
    return None if is_due(stuff, way[1], way[2]) else "odd"


def ways_from(stuff):
    if stuff[0] == "folder":
        return [(place, kind, 0) for name, kind, place in stuff[3]]
    if stuff[0] == "file":
        return [(stretch[PLACE], "cells", end_in_piece(stretch)) for stretch in stuff[3]]
    return []


def faults_from(floor, root):
    faults = {}
    seen = {}
    waiting = [(root, "folder", 0)]
    while waiting:
        way = waiting.pop()
        if way not in seen:
            seen[way] = True
            fault = fault_on(floor, way)
            if fault is None:
                waiting.extend(ways_from(floor.read(way[0])))
            else:
                faults[way[0]] = fault
    return faults


def looked(floor):
    top = need_tops(floor)[0]
    words = {}
    names = {}
    whole = []
    # The top tells its heads by names, so the names rise everywhere.
    for head in top[4]:
        faults = faults_from(floor, head[3])
        words.update(faults)
        for place in faults:
            names[place] = names.get(place, ()) + (head[0],)
        if not faults:
            whole.append(head[0])
    return (top[1], [(place, words[place], names[place]) for place in sorted(words)], whole)


def lines_with(lines, heads):
    names = [head[0] for head in heads]
    kept = [head[1] for head in heads]
    return [(line, base, origin if origin in names else "") for line, base, origin in lines if line in kept]


def mended(floor, births=False):
    top = need_tops(floor)[0]
    whole = looked(floor)[2]
    heads = [head for head in top[4] if head[0] in whole]
    lines = lines_with(top[3], heads)
    if births:
        need_origins(lines, heads)
    for stamp in (top[1] + 1, top[1] + 2):
        floor.write(stamp % 2, top_of(stamp, top[2], lines, heads))
    return come_up(floor, births)
