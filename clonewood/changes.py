"""What one tree has otherwise than another one."""

from clonewood.trees import cells_in
from clonewood.words import path_of


def entries_of(look, place):
    return dict([(name, (kind, below)) for name, kind, below in look(place).entries])


def runs(path, old, new):
    # Beyond its size the old file's cells count as 0.
    as_long = old + [0] * len(new)
    spans = []
    for at, cell in enumerate(new):
        if cell != as_long[at]:
            if spans and spans[-1][1] == at:
                spans[-1] = (spans[-1][0], at + 1)
            else:
                spans.append((at, at + 1))
    return [("cells", path, low, tuple(new[low:high])) for low, high in spans]


def file_changes(look, old, new, path):
    old_cells = cells_in(look, look(old))
    new_cells = cells_in(look, look(new))
    sizes = [("size", path, len(new_cells))] if len(new_cells) != len(old_cells) else []
    return sizes + runs(path, old_cells, new_cells)


def coming(look, new, names):
    path = path_of(names)
    if new[0] == "folder":
        return [("folder", path)] + between(look, {}, entries_of(look, new[1]), names)
    cells = cells_in(look, look(new[1]))
    return [("file", path, len(cells))] + runs(path, [], cells)


def change_at(look, old, new, names):
    if old is None or old[0] != new[0]:
        return coming(look, new, names)
    if old[1] == new[1]:
        return []
    if new[0] == "folder":
        return between(look, entries_of(look, old[1]), entries_of(look, new[1]), names)
    return file_changes(look, old[1], new[1], path_of(names))


def between(look, old, new, names):
    told = []
    for name in sorted(old):
        if name not in new or new[name][0] != old[name][0]:
            told.append(("gone", path_of(names + [name])))
    for name in sorted(new):
        told.extend(change_at(look, old.get(name), new[name], names + [name]))
    return told


def changes(look, one, other):
    return between(look, {} if one is None else entries_of(look, one), entries_of(look, other), [])
