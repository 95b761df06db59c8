"""A tree of paths that is reckoned from the document's words alone, and requests by chance for it."""

import re

from clonewood.errors import (
    Crowded, NoCells, NoPath, NoSpan, NotFile, NotFolder, NotThere, Over, There, TooDeep, Within,
)

PATH = re.compile(r"([a-z0-9]{1,8}(/[a-z0-9]{1,8}){0,5})?")
NAMES = ["a", "a0", "b", "0", "zz"]


class Refused(Exception):
    def __init__(self, error, *fields):
        self.told = (error, list(fields))


def refuse_if(due, error, *fields):
    if due:
        raise Refused(error, *fields)


def above(path):
    return path.rpartition("/")[0]


def ways(*paths):
    """All folders that lie on the way of one of the paths, above their last names."""
    found = set()
    for path in paths:
        while path:
            path = above(path)
            found.add(path)
    return found


class Paths:
    """A tree as a dict: the path of a folder has its limit, that of a file a list of cells.

    A cell is None for a hole, or (put, at, value): which of all puts brought it, the how manieth it was there.
    No list is changed, so that two paths have the same list just where they have the same knot.
    """

    def __init__(self, puts=None):
        self.tree = {"": 0}
        # One row of puts for all trees between which cells may come to be shared.
        self.puts = [] if puts is None else puts

    def twin_tree(self):
        other = Paths(self.puts)
        other.tree = dict(self.tree)
        return other

    def kids(self, path):
        return [one for one in self.tree if one and above(one) == path]

    def is_file(self, path):
        return isinstance(self.tree.get(path), list)

    def is_folder(self, path):
        return path in self.tree and not self.is_file(path)

    def paths(self, *paths):
        for path in paths:
            refuse_if(not path or not PATH.fullmatch(path), NoPath, path)

    def span(self, at, long):
        refuse_if(at < 0 or long < 1 or at + long > 40, NoSpan, at, long)

    def old_file(self, path):
        refuse_if(path not in self.tree, NotThere, path)
        refuse_if(not self.is_file(path), NotFile, path)
        return self.tree[path]

    def spot(self, path, leaving=None):
        refuse_if(not self.is_folder(above(path)), NotThere, path)
        refuse_if(path in self.tree, There, path)
        refuse_if(len([kid for kid in self.kids(above(path)) if kid != leaving]) >= 8, Crowded, above(path))

    def any_file(self, path):
        if path not in self.tree:
            self.spot(path)
            return []
        return self.old_file(path)

    def lay(self, path, cells, at, new):
        cells = cells + [None] * (at + len(new) - len(cells))
        self.tree[path] = cells[:at] + new + cells[at + len(new):]

    def folder(self, path):
        self.paths(path)
        self.spot(path)
        self.tree[path] = 0
        return 1 + len(ways(path))

    def drop(self, path):
        self.paths(path)
        refuse_if(path not in self.tree, NotThere, path)
        for one in self.below(path):
            self.tree.pop(one)
        return len(ways(path))

    def below(self, path):
        return [one for one in self.tree if path in ("", one) or one.startswith(path + "/")]

    def put(self, path, at, cells):
        self.paths(path)
        refuse_if(not 1 <= len(cells) <= 40 or not all(0 <= cell <= 999999 for cell in cells), NoCells)
        self.span(at, len(cells))
        old = self.any_file(path)
        self.puts.append(path)
        self.lay(path, old, at, [(len(self.puts), index, cell) for index, cell in enumerate(cells)])
        return (len(cells) + 7) // 8 + 1 + len(ways(path))

    def trim(self, path, size):
        self.paths(path)
        refuse_if(not 0 <= size <= 40, NoSpan, 0, size)
        self.tree[path] = (self.old_file(path) + [None] * 40)[:size]
        return 1 + len(ways(path))

    def hollow(self, path, at, long):
        self.paths(path)
        self.span(at, long)
        refuse_if(at + long > len(self.old_file(path)), NoSpan, at, long)
        self.lay(path, self.tree[path], at, [None] * long)
        return 1 + len(ways(path))

    def share(self, path, at, long, to, to_at):
        self.paths(path, to)
        self.span(at, long)
        self.span(to_at, long)
        cells = self.old_file(path)
        refuse_if(at + long > len(cells), NoSpan, at, long)
        self.lay(to, self.any_file(to), to_at, cells[at:at + long])
        return 1 + len(ways(to))

    def twin(self, path, to):
        self.paths(path, to)
        cells = self.old_file(path)
        self.spot(to)
        self.tree[to] = cells
        return len(ways(to))

    def move(self, path, to):
        self.paths(path, to)
        refuse_if(path not in self.tree, NotThere, path)
        refuse_if(to == path or to.startswith(path + "/"), Within, to)
        self.spot(to, path)
        moved = {to + one[len(path):]: self.tree[one] for one in self.below(path)}
        refuse_if(any(one.count("/") > 5 for one in moved), TooDeep, to)
        for one in self.below(path):
            self.tree.pop(one)
        self.tree.update(moved)
        return len(ways(path, to))

    def weight(self, path):
        """How many folders, files that have knots of their own, and data pieces there are from a path on."""
        below = self.below(path)
        files = [self.tree[one] for one in below if self.is_file(one)]
        pieces = {(cell[0], cell[1] // 8) for cells in files for cell in cells if cell}
        return len(below) - len(files) + len({id(cells) for cells in files}) + len(pieces)

    def need_limits(self):
        heavy = [(path, self.weight(path)) for path in self.tree
                 if self.is_folder(path) and 0 < self.tree[path] < self.weight(path)]
        if heavy:
            raise Refused(Over, *min(heavy))

    def reading(self):
        """What is read of the tree: folders as None, files as lists of cells."""
        return {path: [cell[2] if cell else 0 for cell in self.tree[path]] if self.is_file(path) else None
                for path in self.tree}

    def set_limit(self, path, many):
        refuse_if(not PATH.fullmatch(path), NoPath, path)
        refuse_if(not 0 <= many <= 999, NoSpan, 0, many)
        refuse_if(path not in self.tree, NotThere, path)
        refuse_if(self.is_file(path), NotFolder, path)
        self.tree[path] = many
        return 1 + len(ways(path))


def due_changes(one, other, path=""):
    """The changes by the words of promise 81, from two readings."""
    def names(reading):
        return {here.rpartition("/")[2]: here for here in reading if here and above(here) == path}

    def kind(reading, here):
        return here in reading and ("folder" if reading[here] is None else "file")

    here = {**names(one), **names(other)}
    told = [("gone", here[name]) for name in sorted(names(one)) if kind(other, here[name]) != kind(one, here[name])]
    for name in sorted(names(other)):
        spot = here[name]
        comes = kind(one, spot) != kind(other, spot)
        if other[spot] is None:
            told += [("folder", spot)] if comes else []
            told += due_changes({} if comes else one, other, spot)
            continue
        old, new = [] if comes else one[spot], other[spot]
        if comes:
            told.append(("file", spot, len(new)))
        elif len(old) != len(new):
            told.append(("size", spot, len(new)))
        told += due_runs(spot, (old + [0] * 40)[:len(new)], new)
    return told


def due_runs(path, old, new):
    signs = "".join("x" if a != b else "." for a, b in zip(old, new))
    return [("cells", path, at, tuple(new[at:at + len(signs[at:].split(".")[0])])) for at in range(len(signs))
            if signs[at] == "x" and (at == 0 or signs[at - 1] == ".")]


class Requests:
    def __init__(self, chance, model):
        self.chance = chance
        self.model = model

    def path(self):
        if self.chance.random() < 0.03:
            return self.chance.choice(["", "A", "a/", "a/b/c/d/e/f/g"])
        if self.chance.random() < 0.65:
            return self.chance.choice(sorted(self.model.tree))
        return "/".join(self.chance.choice(NAMES) for deep in range(self.chance.choice((1, 1, 2, 2, 3, 4, 6))))

    def new_path(self):
        folders = [path for path in sorted(self.model.tree) if self.model.is_folder(path)]
        where = self.chance.choice((
            self.chance.choice(folders), max(self.chance.choices(folders, k=3), key=len),
            max(folders, key=lambda path: len(self.model.kids(path))),
        ))
        name = self.chance.choice(NAMES + ["c", "d", "e", "f", "g"])
        return f"{where}/{name}" if where else name

    def file_path(self):
        files = [path for path in sorted(self.model.tree) if self.model.is_file(path)]
        return self.chance.choice(files) if files and self.chance.random() < 0.8 else self.path()

    def number(self, low, high):
        return self.chance.choice((low - 1, low, high, high + 1)) if self.chance.random() < 0.1 else (
            self.chance.randint(low, high))

    def span(self):
        at = self.number(0, self.chance.choice((5, 35)))
        return at, self.number(1, max(1, min(40 - at, 12)))

    def request(self):
        chance = self.chance
        either = chance.choice((self.path, self.new_path, self.new_path))
        name = chance.choice((
            "folder", "folder", "folder", "put", "put", "put", "trim", "hollow", "share", "share", "twin", "move", "move",
            "move", "drop", "set_limit",
        ))
        if name == "folder":
            return (name, either())
        if name == "drop":
            return (name, max(self.path(), self.path(), key=len))
        if name == "put":
            cells = [chance.choice((0, 5, 999999, chance.randint(0, 999999))) for many in range(self.number(1, 20))]
            return (name, either(), self.number(0, 39 - len(cells) // 2), cells)
        if name == "trim":
            return (name, self.file_path(), self.number(0, 40))
        if name == "hollow":
            return (name, self.file_path(), *self.span())
        if name == "share":
            return (name, self.file_path(), *self.span(), chance.choice((self.file_path, either))(), self.number(0, 30))
        if name == "set_limit":
            return (name, self.path(), self.number(0, 999))
        return (name, self.file_path() if name == "twin" else self.path(), either())
