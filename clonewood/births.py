"""The book that goes by births alone: by when a piece was born, and which makes of its line still stand."""

from clonewood.books import Book, Line
from clonewood.trees import reach_by


class Births(Book):
    def __init__(self, points, born):
        Book.__init__(self, points, born)
        # The dead row of each head, by its line and stamp; 0 is the growth's stamp here.
        self.dead = {}

    def stood(self, line, base, makes, root):
        told = Line(base, makes, root)
        self.lines[line] = told
        ahead = []
        for stamp, head_root in told.in_order():
            reached = self.reached(head_root)
            self.lay(reached)
            self.dead[(line, stamp)] = sorted(set(ahead) - set(reached))
            ahead = reached

    def made(self, line, stamp):
        told = self.lines[line]
        told.makes.append((stamp, told.root))
        # The make stands where the growth stood, and the growth comes to all to which the make does.
        self.dead[(line, stamp)] = self.dead[(line, 0)]
        self.dead[(line, 0)] = []

    def grown(self, line, root):
        told = self.lines[line]
        reached = self.reached(root)
        left = sorted(set(self.reached(told.root)) - set(reached))
        told.root = root
        self.lay(reached)
        since = told.newest_stamp()
        # What was born ahead of a base is the base's own, whatever this line leaves of it.
        if told.makes:
            self.dead[(line, 0)] = sorted(self.dead[(line, 0)] + self.born_by(left, since))
        return self.let_go(self.born_behind(left, since))

    def unmade(self, line, stamp):
        told = self.lines[line]
        index = told.index_of(stamp)
        since = told.stamp_ahead(index)
        behind = told.in_order()[index + 1:]
        own = self.dead.pop((line, stamp))
        root = self.take_make(line, stamp)
        if not behind:
            return self.let_go(self.born_behind(self.reached(root), since))
        key = (line, behind[0][0])
        left = self.dead[key]
        self.dead[key] = sorted(self.born_by(left, since) + own) if index > 0 else []
        return self.let_go(self.born_behind(left, since))

    def ended(self, line):
        since = self.lines[line].newest_stamp()
        self.dead.pop((line, 0))
        root = self.take_growth(line)
        return self.let_go(self.born_behind(self.reached(root), since))

    def dead_row(self, line, stamp):
        return list(self.dead[(line, stamp)])

    def reached(self, root):
        return reach_by(self.points_of, [root])

    def born_behind(self, places, since):
        born = self.born_of
        return [place for place in places if born(place) > since]

    def born_by(self, places, since):
        born = self.born_of
        return [place for place in places if born(place) <= since]

    def lay(self, places):
        for place in places:
            self.there[place] = True

    def let_go(self, places):
        for place in places:
            self.there.pop(place)
        return places
