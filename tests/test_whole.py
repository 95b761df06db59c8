"""Promises 6 to 8 over the whole program: long runs by chance, from text to text through two desks.

Beside each desk a wood is kept that is reckoned from the document's words; texts alone pass between the desks.
"""

import random
import unittest

from clonewood.desk import Desk
from clonewood.errors import BadRow, NoBase, NoRoom
from clonewood.rows import stuff_of
from helper import WoodCase, comes_to
from model import Refused, due_changes, refuse_if, ways
from woods import DEEDS, HeadKept, WoodKept, WoodRequests


def told(thing):
    return "." if thing == "" else str(thing)


def as_text(request):
    """A request as it is told to a desk, and whether it can be told at all: no number is below 0, no name empty."""
    name, *handed = request
    words = []
    for at, thing in enumerate(handed):
        if isinstance(thing, list):
            words += [str(cell) for cell in thing]
        else:
            words.append(told(thing) if name in DEEDS and at > 0 else str(thing))
    well = "" not in words and not any(word.startswith("-") for word in words)
    well = well and (name != "put" or len(words) > 3)
    return " ".join(["limit" if name == "set_limit" else name, *words]), well


def refusal_told(refusal):
    error, fields = refusal.told
    return " ".join(["no", error.__name__, *[told(field) for field in fields]])


class Side:
    """A desk, and what is kept beside it."""

    def __init__(self, chance, many, word, births):
        self.desk = Desk(many, word, "a", births)
        self.say = self.desk.say
        self.births = births
        self.kept = WoodKept(word, "a")
        self.requests = WoodRequests(chance, self.kept)

    def number(self, word):
        return int(self.say(word).split(" ")[1])

    def names(self, kind):
        return [name for name in sorted(self.kept.heads) if self.kept.heads[name].kind == kind]


class TwoDesks(WoodCase):
    def begin(self, seed):
        self.chance = random.Random(seed)
        self.sides = [self.new_side(0), self.new_side(1)]

    def new_side(self, at):
        return Side(self.chance, self.chance.choice((18, 40, 120, 600)), ("one", "two")[at], self.chance.random() < 0.5)

    def step(self):
        at = self.chance.randint(0, 1)
        side = self.sides[at]
        way = self.chance.random()
        if way < 0.12:
            self.pass_on(side, self.sides[1 - at])
        elif way < 0.132:
            self.hurt(at)
        else:
            request = self.request(side)
            text, well = as_text(request)
            if not well:
                self.same(side.say(text), "no NoLine")
            else:
                self.deed(side, text, lambda kept, spare: side.requests.ask(kept, spare, request))
        if side.kept.stamp > 380:
            self.sides[at] = self.new_side(at)

    def request(self, side):
        request = side.requests.request()
        while request[0] == "take_in":
            request = side.requests.request()
        return request

    def deed(self, side, text, ask):
        """A deed told by a text, held against what is kept; perhaps the power goes in it."""
        spare, lying = side.number("spare"), side.number("lying")
        tried = side.kept.twin_wood()
        try:
            pieces = ask(tried, spare)
        except Refused as refusal:
            self.same(side.say(text), refusal_told(refusal))
            self.used[refusal.told[0].__name__] = True
            return
        if self.chance.random() < 0.2:
            self.same(side.say(f"cut {pieces + 1}"), "ok")
            cut = self.chance.randint(0, pieces)
            self.fall(side, text, cut)
            if self.chance.random() < 0.5:
                return
            # The fall may have left nothing resting, never less room.
            self.assertTrue(side.number("spare") >= spare)
            spare = side.number("spare")
        answer = side.say(text).split(" ")
        self.same(answer[:2], ["ok", str(pieces)])
        self.same(side.number("lying"), lying + pieces - int(answer[2]))
        self.used[text.split(" ")[0]] = True
        side.kept.stamp, side.kept.heads, side.kept.lines = tried.stamp, tried.heads, tried.lines

    def fall(self, side, text, cut):
        self.same(side.say(f"cut {cut}"), "ok")
        self.same(side.say(text), "no PowerGone")
        for request in (text, "heads", "own", "lying"):
            self.same(side.say(request), "no Down")
        self.same(side.say("up"), "no PowerGone")
        self.same(side.say("light"), "ok")
        self.same(side.say("heads"), "no Down")
        self.same(side.say("up"), "ok")
        self.used["fall"] = True

    def pass_on(self, side, other):
        """A make is sent as a text, and put in at a growth on the other side, as it was sent or not."""
        makes = side.names("make")
        growths = other.names("growth")
        if not makes or not growths:
            return
        second = self.chance.choice(makes)
        growth = self.chance.choice(growths)
        first = self.first_for(side, other, growth, makes)
        text = side.say(f"send {first or '.'} {second}")
        rows = text.split(" ")[1:]
        self.check_rows(side, first, second, rows)
        name = other.requests.name() or "x"
        if self.chance.random() < 0.3:
            bad, rows = self.spoil(rows)
            self.deed(other, " ".join(["receive", growth, name, *rows]), lambda kept, spare: self.bad(kept, growth, name, bad))
            return
        self.deed(other, " ".join(["receive", growth, name, *rows]),
                  lambda kept, spare: self.receive(kept, spare, growth, name, side.kept, first, second))

    def first_for(self, side, other, growth, makes):
        """Mostly the make whose mark that one has on which the growth stands."""
        base = other.kept.stands_on(growth)
        mark = other.kept.heads[base].mark if base else None
        fitting = [name for name in makes if side.kept.heads[name].mark == mark]
        if self.chance.random() < 0.85:
            return fitting[0] if fitting else None
        return self.chance.choice([None, *makes])

    def check_rows(self, side, first, second, rows):
        heads = side.kept.heads
        one = heads[first].tree.reading() if first else {"": None}
        changes = due_changes(one, heads[second].tree.reading())
        begin = ("begin", heads[first].mark if first else ("", 0), heads[second].mark)
        self.same([stuff_of(row)[:2] for row in rows],
                  list(enumerate([begin, *changes, ("end", len(changes) + 2)])))

    def spoil(self, rows):
        """Rows that are not as they were sent, with the first place at which they are not."""
        at = self.chance.randrange(len(rows))
        way = self.chance.choice(("out", "double", "cut", "change", "exchange"))
        if way == "out":
            return at, rows[:at] + rows[at + 1:]
        if way == "double":
            return at + 1, rows[:at + 1] + rows[at:]
        if way == "cut":
            return at, rows[:at]
        if way == "exchange":
            low, high = sorted(self.chance.sample(range(len(rows)), 2))
            return low, rows[:low] + [rows[high]] + rows[low + 1:high] + [rows[low]] + rows[high + 1:]
        # A lesser figure, so that the row is a line all the same.
        figures = [index for index, sign in enumerate(rows[at]) if sign in "23456789"]
        index = self.chance.choice(figures)
        figure = self.chance.choice("123456789"[:int(rows[at][index]) - 1])
        return at, rows[:at] + [rows[at][:index] + figure + rows[at][index + 1:]] + rows[at + 1:]

    def bad(self, kept, growth, name, at):
        kept.head(growth, "growth")
        kept.new(name)
        raise Refused(BadRow, at)

    def receive(self, kept, spare, growth, name, sender, first, second):
        """Rows put in, by the words of promises 83 to 85; the changes are done on the tree of paths."""
        head = kept.head(growth, "growth")
        kept.new(name)
        mark = sender.heads[first].mark if first else ("", 0)
        base = kept.stands_on(growth)
        if first:
            fits = base is not None and kept.heads[base].mark == mark and kept.heads[base].tree is head.tree
        else:
            fits = base is None and len(head.tree.tree) == 1
        refuse_if(not fits, NoBase, *mark)
        tree, puts = head.tree.twin_tree(), len(kept.puts)
        one = sender.heads[first].tree.reading() if first else {"": None}
        changes = due_changes(one, sender.heads[second].tree.reading())
        for change in changes:
            self.change(tree, *change)
        tree.need_limits()
        pieces = self.new_pieces(head.tree, tree, puts, changes)
        refuse_if(pieces > spare, NoRoom, pieces, spare)
        if not changes:
            tree = head.tree
        kept.heads[growth] = HeadKept("growth", head.line, 0, tree)
        kept.heads[name] = HeadKept("make", head.line, kept.stamp + 1, tree, sender.heads[second].mark)
        return kept.done(pieces)

    def change(self, tree, name, path, *more):
        if name == "gone":
            tree.drop(path)
        elif name == "folder":
            tree.folder(path)
        elif name == "file":
            tree.spot(path)
            tree.tree[path] = [None] * more[0]
        elif name == "size":
            tree.trim(path, *more)
        else:
            tree.put(path, more[0], list(more[1]))

    def new_pieces(self, old, tree, puts, changes):
        """How many of a tree's knots are new: folders on the way of a change, files and cells that were not there."""
        touched = {path for change in changes for path in ways(change[1])}
        touched |= {change[1] for change in changes if change[0] == "folder"}
        files = {id(cells): cells for cells in tree.tree.values() if isinstance(cells, list)}
        known = {id(cells) for cells in old.tree.values() if isinstance(cells, list)}
        pieces = {(cell[0], cell[1] // 8) for cells in files.values() for cell in cells if cell and cell[0] > puts}
        return len([path for path in touched if tree.is_folder(path)]) + len(set(files) - known) + len(pieces)

    def hurt(self, at):
        """What stands at a path of a head is harmed or lost; then the floor is looked at and mended."""
        side = self.sides[at]
        if not side.kept.heads:
            return
        name = self.chance.choice(sorted(side.kept.heads))
        path = self.chance.choice(sorted(side.kept.heads[name].tree.tree))
        place = side.desk.wood.seek_at(name, path)[1]
        roots = {head: root for head, kind, root in side.desk.wood.heads()}
        whole = [head for head in sorted(roots) if place not in comes_to(side.desk.floor, [roots[head]])]
        self.same(side.say(f"{self.chance.choice(('harm', 'lose'))} {name} {told(path)}"), "ok")
        self.same(side.say("look"), " ".join(["ok", "1", *whole]))
        side.kept.mend(whole)
        rootless = side.kept.rootless()
        if side.births and rootless is not None:
            self.same(side.say("mend"), f"no Rootless {rootless}")
            self.used["Rootless"] = True
            self.sides[at] = self.new_side(at)
            return
        if self.chance.random() < 0.4:
            cut = self.chance.randint(0, 1)
            side.say(f"cut {cut}")
            self.same(side.say("mend"), "no PowerGone")
            side.say("light")
            side.kept.stamp += cut
        self.same(side.say("mend"), "ok")
        self.same(side.say("look"), " ".join(["ok", "0", *whole]))
        self.used["mend"] = True

    def check(self, side):
        kept = side.kept
        heads = [f"{name} {kept.heads[name].kind}" for name in sorted(kept.heads)]
        self.same(side.say("heads"), " ".join(["ok", *heads]))
        for name, head in kept.heads.items():
            if head.kind == "make":
                self.same(side.say(f"mark {name}"), f"ok {head.mark[0]} {head.mark[1]}")
            else:
                base = kept.stands_on(name)
                self.same(side.say(f"stands {name}"), f"ok {base}" if base else "ok")
            self.check_tree(side, name, head.tree)
        shares = side.say("shares").split(" ")[1:]
        self.assertEqual(sum(int(many) for many in shares[1::2]), side.number("lying"))
        some = self.chance.sample(sorted(kept.heads), self.chance.randint(0, len(kept.heads)))
        alone = sum(int(many) for names, many in zip(shares[::2], shares[1::2]) if set(names.split(",")) <= set(some))
        self.same(side.say(" ".join(["own", *some])), f"ok {alone}")

    def check_tree(self, side, name, tree):
        reading = tree.reading()
        for path, cells in reading.items():
            if cells is None:
                names = sorted(one.rpartition("/")[2] for one in tree.kids(path))
                self.same(side.say(f"kind {name} {told(path)}"), "ok folder")
                self.same(side.say(f"names {name} {told(path)}"), " ".join(["ok", *names]))
            else:
                self.same(side.say(f"kind {name} {path}"), "ok file")
                self.same(side.say(f"size {name} {path}"), f"ok {len(cells)}")
                self.same(side.say(f"cells {name} {path}"), " ".join(["ok", *map(str, cells)]))
        path = self.chance.choice(sorted(reading))
        self.same(side.say(f"weight {name} {told(path)}"), f"ok {tree.weight(path)}")
        limits = [f"{told(path)} {tree.tree[path]} {tree.weight(path)}" for path in sorted(reading)
                  if tree.is_folder(path) and tree.tree[path]]
        self.same(side.say(f"limits {name}"), " ".join(["ok", *limits]))
        own, others = side.say(f"room {name}").split(" ")[1:]
        self.same(int(own) + int(others), tree.weight(""))

    def test_two_desks(self):
        self.used = {}
        for seed in range(16):
            with self.subTest(seed):
                self.begin(seed)
                for number in range(500):
                    self.step()
                    if number % 20 == 19:
                        for side in self.sides:
                            self.check(side)
        due = [name for name in DEEDS if name != "set_limit"] + ["limit", "make", "clone", "sprout", "go", "receive", "fall", "mend"]
        for name in due + ["NoBase", "BadRow", "Over", "NoRoom", "Rootless", "Needed", "TooMany"]:
            self.assertIn(name, self.used)


if __name__ == "__main__":
    unittest.main()
