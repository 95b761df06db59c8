"""Trees, told by a look, a function that gives the knot at a place, and by a root."""

from clonewood.errors import NotFile, NotFolder, NotThere
from clonewood.stretches import cells_of
from clonewood.words import names_of, path_of


def step_down(look, found, name):
    if found is None or found[0] != "folder":
        return None
    return look(found[1]).entry(name)


def found_at(look, root, names):
    found = ("folder", root)
    for name in names:
        found = step_down(look, found, name)
    return found


def seek(look, root, path):
    found = found_at(look, root, names_of(path))
    if found is None:
        raise NotThere(path)
    return found


def seek_folder(look, root, path):
    found = seek(look, root, path)
    if found[0] != "folder":
        raise NotFolder(path)
    return look(found[1])


def seek_file(look, root, path):
    found = seek(look, root, path)
    if found[0] != "file":
        raise NotFile(path)
    return look(found[1])


def reach_by(points, places):
    seen = {}
    waiting = list(places)
    while waiting:
        place = waiting.pop()
        if place not in seen:
            seen[place] = True
            waiting.extend(points(place))
    return sorted(seen)


def reach(look, places):
    return reach_by(lambda place: look(place).points(), places)


def weight(look, place):
    return len(reach(look, [place]))


def listing_below(look, root, names):
    found = []
    for name, kind, place in look(root).entries:
        path_names = names + [name]
        found.append((path_of(path_names), kind, place))
        if kind == "folder":
            found.extend(listing_below(look, place, path_names))
    return found


def listing(look, root):
    # Sorted, so that the order of paths doesn't hang on the order of a folder's entries.
    return sorted(listing_below(look, root, []))


def height(look, place):
    knot = look(place)
    if knot.kind() != "folder" or not knot.entries:
        return 0
    return 1 + max([height(look, entry[2]) for entry in knot.entries])


def is_over(look, place):
    limit = look(place).limit
    return limit != 0 and weight(look, place) > limit


def folders_in(look, root):
    below = [(path, place) for path, kind, place in listing(look, root) if kind == "folder"]
    return [("", root)] + below


def over(look, root):
    for path, place in folders_in(look, root):
        if is_over(look, place):
            return (path, weight(look, place))
    return None


def names_at(look, root, path):
    return sorted([entry[0] for entry in seek_folder(look, root, path).entries])


def size_at(look, root, path):
    return seek_file(look, root, path).size


def cells_in(look, knot):
    return cells_of(knot.row, knot.size, lambda place: look(place).cells)


def cells_at(look, root, path):
    return cells_in(look, seek_file(look, root, path))
