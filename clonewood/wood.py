"""A wood: growths and makes on a floor, which share their pieces."""

from clonewood.errors import Down, Needed, NoHead, NoRoom, NotGrowth, NotMake, OldHead, PowerGone, TooMany
from clonewood.growing import Deed
from clonewood.heads import MOST_HEADS, Head, top_of
from clonewood.knots import FolderKnot, knot_of
from clonewood.stretches import FIRST_PLACE
from clonewood.trees import cells_at, names_at, seek, size_at
from clonewood.words import need_word


def knot_on(floor, place):
    return knot_of(floor.read(place))


class Wood:
    def __init__(self, floor, word, stamp, lines, known, book, rest):
        self.floor = floor
        self.word = word
        self.stamp = stamp
        # Tuples (line, base, origin), rising.
        self.lines = lines
        # The heads, by names.
        self.known = known
        self.book = book
        self.rest = rest
        self.down = False

    def folder(self, growth, path):
        return self.grow_by(growth, lambda deed: deed.folder(path))

    def put(self, growth, path, at, cells):
        return self.grow_by(growth, lambda deed: deed.put(path, at, cells))

    def trim(self, growth, path, size):
        return self.grow_by(growth, lambda deed: deed.trim(path, size))

    def hollow(self, growth, path, at, long):
        return self.grow_by(growth, lambda deed: deed.hollow(path, at, long))

    def share(self, growth, path, at, long, to, to_at):
        return self.grow_by(growth, lambda deed: deed.share(path, at, long, to, to_at))

    def twin(self, growth, path, to):
        return self.grow_by(growth, lambda deed: deed.twin(path, to))

    def drop(self, growth, path):
        return self.grow_by(growth, lambda deed: deed.drop(path))

    def move(self, growth, path, to):
        return self.grow_by(growth, lambda deed: deed.move(path, to))

    def set_limit(self, growth, path, many):
        return self.grow_by(growth, lambda deed: deed.set_limit(path, many))

    def make(self, growth, name):
        head = self.need_growth(growth)
        self.need_new(name)
        stamp = self.stamp + 1
        made = Head(name, head.line, stamp, head.root, self.word, stamp)
        self.write_deed([], self.lines, self.known + [made])
        self.book.made(head.line, stamp)
        return self.done([], [])

    def clone(self, make, name):
        head = self.need_make(make)
        self.need_new(name)
        return self.begin_line([], head.stamp, make, name, head.root)

    def sprout(self, name):
        self.need_up()
        self.need_new(name)
        root = self.need_spare(1)[0]
        pieces = [(root, FolderKnot(self.stamp + 1, 0, ()).stuff())]
        return self.begin_line(pieces, 0, "", name, root)

    def go(self, name):
        head = self.need_head(name)
        self.need_unneeded(name)
        heads = self.other_heads(name)
        kept = [other.line for other in heads]
        self.write_deed([], [line for line in self.lines if line[0] in kept], heads)
        if head.kind() == "growth":
            return self.done([], self.book.ended(head.line))
        return self.done([], self.book.unmade(head.line, head.stamp))

    def take_in(self, growth, deed, name, word, mark):
        self.need_take(growth, name)
        return self.let_grow(growth, deed, [(name, word, mark)])

    def need_take(self, growth, name):
        self.need_growth(growth)
        self.need_new(name)

    def begin(self, growth):
        head = self.need_growth(growth)
        return Deed(lambda place: self.knot_at(place), head.root, self.stamp + 1)

    def heads(self):
        self.need_up()
        return [(head.name, head.kind(), head.root) for head in self.known]

    def root_of(self, name):
        return self.need_head(name).root

    def mark_of(self, name):
        head = self.need_make(name)
        return (head.word, head.mark)

    def stands_on(self, name):
        line = self.need_growth(name).line
        makes = [(head.stamp, head.name) for head in self.known if head.line == line and head.kind() == "make"]
        if makes:
            return max(makes)[1]
        origins = [origin for number, base, origin in self.lines if number == line and origin != ""]
        return origins[0] if origins else None

    def seek_at(self, name, path):
        root = self.root_of(name)
        return seek(lambda place: self.knot_at(place), root, path)

    def kind_at(self, name, path):
        return self.seek_at(name, path)[0]

    def names_at(self, name, path):
        root = self.root_of(name)
        return names_at(lambda place: self.knot_at(place), root, path)

    def size_at(self, name, path):
        root = self.root_of(name)
        return size_at(lambda place: self.knot_at(place), root, path)

    def cells_at(self, name, path):
        root = self.root_of(name)
        return cells_at(lambda place: self.knot_at(place), root, path)

    def knot_at(self, place):
        self.need_up()
        return knot_on(self.floor, place)

    def piece(self, place):
        self.need_up()
        return self.floor.read(place)

    def lying(self):
        self.need_up()
        return self.book.lying()

    def resting(self):
        self.need_up()
        return list(self.rest)

    def spare(self):
        self.need_up()
        free = [place for place in range(FIRST_PLACE, self.floor.many) if not self.book.lies(place)]
        return [place for place in free if place not in self.rest]

    def need_up(self):
        if self.down:
            raise Down()

    def need_head(self, name):
        self.need_up()
        for head in self.known:
            if head.name == name:
                return head
        raise NoHead(name)

    def need_growth(self, name):
        head = self.need_head(name)
        if head.kind() != "growth":
            raise NotGrowth(name)
        return head

    def need_make(self, name):
        head = self.need_head(name)
        if head.kind() != "make":
            raise NotMake(name)
        return head

    def need_new(self, name):
        need_word(name)
        if name in [head.name for head in self.known]:
            raise OldHead(name)
        if len(self.known) >= MOST_HEADS:
            raise TooMany(len(self.known))

    def need_unneeded(self, name):
        above = [number for number, base, origin in self.lines if origin == name]
        needing = [head.name for head in self.known if head.line in above]
        if needing:
            raise Needed(name, min(needing))

    def need_spare(self, many):
        places = self.spare()
        if len(places) < many:
            raise NoRoom(many, len(places))
        return places

    def other_heads(self, name):
        return [head for head in self.known if head.name != name]

    def grow_by(self, growth, change):
        deed = self.begin(growth)
        change(deed)
        return self.let_grow(growth, deed, [])

    def let_grow(self, growth, deed, makes):
        line = self.need_growth(growth).line
        deed.need_limits()
        settled = deed.settled(self.need_spare(len(deed.news())))
        root = settled[1]
        heads = self.other_heads(growth) + [Head(growth, line, 0, root, "", 0)]
        stamp = self.stamp + 1
        for name, word, mark in makes:
            heads.append(Head(name, line, stamp, root, word, mark))
        self.write_deed(settled[0], self.lines, heads)
        freed = self.book.grown(line, root)
        if makes:
            self.book.made(line, stamp)
        return self.done(settled[0], freed)

    def begin_line(self, pieces, base, origin, name, root):
        line = self.stamp + 1
        self.write_deed(pieces, self.lines + [(line, base, origin)], self.known + [Head(name, line, 0, root, "", 0)])
        self.book.begun(line, base, root)
        return self.done(pieces, [])

    def write_deed(self, pieces, lines, heads):
        stamp = self.stamp + 1
        known = sorted(heads, key=lambda head: head.name)
        top = top_of(stamp, self.word, lines, [head.told() for head in known])
        try:
            for place, stuff in pieces + [(stamp % 2, top)]:
                self.floor.write(place, stuff)
        except PowerGone:
            self.down = True
            raise PowerGone()
        self.stamp = stamp
        self.lines = lines
        self.known = known

    def done(self, pieces, freed):
        self.rest = freed
        return ([place for place, stuff in pieces], list(freed))
