"""A wood that is reckoned from the document's words alone, and requests by chance for it."""

from clonewood.errors import Needed, NoHead, NoRoom, NotGrowth, NotMake, NoWord, OldHead, TooMany
from model import Paths, Refused, Requests, refuse_if

WORDS = ["a", "b", "c0", "9", "mm", "n", "o", "p", "q", "r", "s", "t", "u", "v1", "v2", "v3", "v4", "v5", "v6"]
DEEDS = ["folder", "put", "trim", "hollow", "share", "twin", "drop", "move", "set_limit"]


class HeadKept:
    """A head with its tree, which is never changed: a growth that grows gets another one."""

    def __init__(self, kind, line, stamp, tree, mark=None):
        self.kind = kind
        self.line = line
        self.stamp = stamp
        self.tree = tree
        self.mark = mark


class WoodKept:
    """What a wood has: its heads by names, and of each line its base and its origin.

    A deed gives how many pieces it writes; how many places are spare is handed in.
    """

    def __init__(self, word, name):
        self.word = word
        self.stamp = 1
        self.puts = []
        self.heads = {name: HeadKept("growth", 1, 0, Paths(self.puts))}
        self.lines = {1: (0, "")}

    def head(self, name, kind=None):
        refuse_if(name not in self.heads, NoHead, name)
        found = self.heads[name]
        if kind:
            refuse_if(found.kind != kind, NotGrowth if kind == "growth" else NotMake, name)
        return found

    def new(self, name):
        refuse_if(not (isinstance(name, str) and 1 <= len(name) <= 8 and name.isalnum() and name.islower()
                       or isinstance(name, str) and name.isdigit()), NoWord, name)
        refuse_if(name in self.heads, OldHead, name)
        refuse_if(len(self.heads) == 12, TooMany, 12)

    def done(self, pieces):
        self.stamp += 1
        return pieces

    def deed(self, spare, name, growth, *handed):
        head = self.head(growth, "growth")
        tree = head.tree.twin_tree()
        pieces = getattr(tree, name)(*handed)
        tree.need_limits()
        refuse_if(pieces > spare, NoRoom, pieces, spare)
        self.heads[growth] = HeadKept("growth", head.line, 0, tree)
        return self.done(pieces)

    def take_in(self, spare, growth, changes, pieces, name, word, mark):
        """Changes as one deed, which has so many new pieces, and a make of what comes of it."""
        head = self.head(growth, "growth")
        self.new(name)
        tree = head.tree.twin_tree()
        for change, *handed in changes:
            getattr(tree, change)(*handed)
        tree.need_limits()
        refuse_if(pieces > spare, NoRoom, pieces, spare)
        self.heads[growth] = HeadKept("growth", head.line, 0, tree)
        self.heads[name] = HeadKept("make", head.line, self.stamp + 1, tree, (word, mark))
        return self.done(pieces)

    def make(self, spare, growth, name):
        head = self.head(growth, "growth")
        self.new(name)
        self.heads[name] = HeadKept("make", head.line, self.stamp + 1, head.tree, (self.word, self.stamp + 1))
        return self.done(0)

    def clone(self, spare, make, name):
        head = self.head(make, "make")
        self.new(name)
        return self.line(head.stamp, make, name, head.tree, 0)

    def sprout(self, spare, name):
        self.new(name)
        refuse_if(spare < 1, NoRoom, 1, spare)
        return self.line(0, "", name, Paths(self.puts), 1)

    def line(self, base, origin, name, tree, pieces):
        self.lines[self.stamp + 1] = (base, origin)
        self.heads[name] = HeadKept("growth", self.stamp + 1, 0, tree)
        return self.done(pieces)

    def go(self, spare, name):
        self.head(name)
        above = [line for line in self.lines if self.lines[line][1] == name]
        by = sorted(one for one, head in self.heads.items() if head.line in above)
        refuse_if(by, Needed, name, by and by[0])
        self.heads.pop(name)
        self.clear()
        return self.done(0)

    def clear(self):
        lines = {head.line for head in self.heads.values()}
        self.lines = {line: told for line, told in self.lines.items() if line in lines}

    def rootless(self):
        """The least name of a head of a line that stands on a make that was lost, or None."""
        lost = [line for line, (base, origin) in self.lines.items() if base and not origin]
        return min([name for name, head in self.heads.items() if head.line in lost], default=None)

    def mend(self, whole):
        """Just the heads that are whole stay; a line whose origin is none of them stands on nothing."""
        self.heads = {name: self.heads[name] for name in whole}
        self.lines = {line: (base, origin if origin in whole else "") for line, (base, origin) in self.lines.items()}
        self.clear()
        self.stamp += 2

    def stands_on(self, name):
        head = self.head(name, "growth")
        makes = [(one.stamp, make) for make, one in self.heads.items() if one.line == head.line and one.kind == "make"]
        return max(makes)[1] if makes else self.lines[head.line][1] or None

    def top_lines(self):
        return tuple((line, *self.lines[line]) for line in sorted(self.lines))

    def twin_wood(self):
        """Another one that stands as this one does, to try out a deed."""
        other = WoodKept(self.word, "a")
        other.stamp = self.stamp
        other.puts = self.puts
        other.heads = dict(self.heads)
        other.lines = dict(self.lines)
        return other


class WoodRequests:
    def __init__(self, chance, kept):
        self.chance = chance
        self.kept = kept

    def name(self):
        return self.chance.choice(WORDS + ["", "B!", "abcdefghi"] if self.chance.random() < 0.1 else WORDS)

    def head(self, kind):
        heads = [name for name in sorted(self.kept.heads) if self.kept.heads[name].kind == kind]
        return self.chance.choice(heads) if heads and self.chance.random() < 0.93 else self.name()

    def request(self):
        """A tuple of a method's name and what is handed in."""
        name = self.chance.choice(["deed"] * 12 + ["make", "make", "take_in", "clone", "sprout", "go", "go"])
        if name == "take_in":
            return self.taking()
        if name == "make":
            return (name, self.head("growth"), self.name())
        if name == "clone":
            return (name, self.head("make"), self.name())
        if name == "sprout":
            return (name, self.name())
        if name == "go":
            # Mostly of many heads, so that there come to be many.
            few = len(self.kept.heads) < self.chance.randint(1, 12)
            return (name, self.name() if few else self.head(self.chance.choice(("growth", "make", "make"))))
        growth = self.head("growth")
        head = self.kept.heads.get(growth)
        deed, *handed = self.change(head.tree if head else Paths())
        return (deed, growth, *handed)

    def change(self, tree):
        deed, *handed = Requests(self.chance, tree).request()
        if deed == "set_limit" and tree.is_folder(handed[0]) and self.chance.random() < 0.7:
            handed[1] = tree.weight(handed[0]) + self.chance.randint(-1, 12)
        return (deed, *handed)

    def taking(self):
        growth = self.head("growth")
        head = self.kept.heads.get(growth)
        tree = head.tree.twin_tree() if head else Paths()
        changes = []
        for again in range(self.chance.choice((0, 1, 1, 3, 6))):
            change = self.change(tree)
            try:
                getattr(tree, change[0])(*change[1:])
                changes.append(change)
            except Refused:
                pass
        mark = self.chance.choice((1, 7, 4294967295))
        return ("take_in", growth, changes, self.name(), self.chance.choice(("wood", "other")), mark)

    def ask(self, kept, spare, request):
        """How many pieces a request writes on a kept wood."""
        name, *handed = request
        return kept.deed(spare, name, *handed) if name in DEEDS else getattr(kept, name)(spare, *handed)
