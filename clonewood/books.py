"""Books, which tell what places lie; and the book that counts who points at each place."""


class Line:
    def __init__(self, base, makes, root):
        self.base = base
        # Tuples (stamp, root), by rising stamps.
        self.makes = list(makes)
        # The growth's; None where the growth has gone.
        self.root = root

    def in_order(self):
        if self.root is None:
            return list(self.makes)
        return self.makes + [(0, self.root)]

    def index_of(self, stamp):
        return [make[0] for make in self.makes].index(stamp)

    def stamp_ahead(self, index):
        if index == 0:
            return self.base
        return self.makes[index - 1][0]

    def newest_stamp(self):
        return self.stamp_ahead(len(self.makes))


class Book:
    def __init__(self, points, born):
        self.points_of = points
        self.born_of = born
        self.lines = {}
        # Its keys are the places that lie; what stands beside a key is each book's own affair.
        self.there = {}

    def begun(self, line, base, root):
        self.stood(line, base, [], root)

    def lies(self, place):
        return place in self.there

    def lying(self):
        return sorted(self.there)

    def take_make(self, line, stamp):
        told = self.lines[line]
        make = told.makes.pop(told.index_of(stamp))
        self.leave_if_empty(line)
        return make[1]

    def take_growth(self, line):
        told = self.lines[line]
        root = told.root
        told.root = None
        self.leave_if_empty(line)
        return root

    def leave_if_empty(self, line):
        if not self.lines[line].in_order():
            self.lines.pop(line)


class Counts(Book):
    def stood(self, line, base, makes, root):
        told = Line(base, makes, root)
        self.lines[line] = told
        for head in told.in_order():
            self.hold(head[1])

    def made(self, line, stamp):
        told = self.lines[line]
        told.makes.append((stamp, told.root))
        self.hold(told.root)

    def grown(self, line, root):
        told = self.lines[line]
        old = told.root
        told.root = root
        # Held ahead of the release, so that what both roots come to isn't let go in between.
        self.hold(root)
        return self.release(old)

    def unmade(self, line, stamp):
        return self.release(self.take_make(line, stamp))

    def ended(self, line):
        return self.release(self.take_growth(line))

    def count(self, place):
        return self.there.get(place, 0)

    def hold(self, root):
        points = self.points_of
        waiting = [root]
        while waiting:
            place = waiting.pop()
            if not self.lies(place):
                waiting.extend(points(place))
            self.there[place] = self.count(place) + 1

    def release(self, root):
        points = self.points_of
        freed = []
        waiting = [root]
        while waiting:
            place = waiting.pop()
            self.there[place] = self.count(place) - 1
            if self.count(place) == 0:
                self.there.pop(place)
                freed.append(place)
                waiting.extend(points(place))
        return sorted(freed)
