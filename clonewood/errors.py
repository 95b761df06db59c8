"""The refusals.

Each has a class of its own straight under WoodError, so that taking one by name never takes another. It tells its
class's name, and its fields in their order.
"""


class WoodError(ValueError):
    def told(self):
        return ["WoodError"]


class NoCells(WoodError):
    def told(self):
        return ["NoCells"]


class PowerGone(WoodError):
    def told(self):
        return ["PowerGone"]


class Down(WoodError):
    def told(self):
        return ["Down"]


class NoWood(WoodError):
    def told(self):
        return ["NoWood"]


class NoWord(WoodError):
    def __init__(self, found):
        self.found = found

    def told(self):
        return ["NoWord", self.found]


class NoPath(WoodError):
    def __init__(self, path):
        self.path = path

    def told(self):
        return ["NoPath", self.path]


class NotThere(WoodError):
    def __init__(self, path):
        self.path = path

    def told(self):
        return ["NotThere", self.path]


class There(WoodError):
    def __init__(self, path):
        self.path = path

    def told(self):
        return ["There", self.path]


class NotFolder(WoodError):
    def __init__(self, path):
        self.path = path

    def told(self):
        return ["NotFolder", self.path]


class NotFile(WoodError):
    def __init__(self, path):
        self.path = path

    def told(self):
        return ["NotFile", self.path]


class Within(WoodError):
    def __init__(self, path):
        self.path = path

    def told(self):
        return ["Within", self.path]


class TooDeep(WoodError):
    def __init__(self, path):
        self.path = path

    def told(self):
        return ["TooDeep", self.path]


class Crowded(WoodError):
    def __init__(self, path):
        self.path = path

    def told(self):
        return ["Crowded", self.path]


class NoSpan(WoodError):
    def __init__(self, at, long):
        self.at = at
        self.long = long

    def told(self):
        return ["NoSpan", self.at, self.long]


class TooMany(WoodError):
    def __init__(self, many):
        self.many = many

    def told(self):
        return ["TooMany", self.many]


class NoFloor(WoodError):
    def __init__(self, many):
        self.many = many

    def told(self):
        return ["NoFloor", self.many]


class Over(WoodError):
    def __init__(self, path, needed):
        self.path = path
        self.needed = needed

    def told(self):
        return ["Over", self.path, self.needed]


class NoRoom(WoodError):
    def __init__(self, needed, free):
        self.needed = needed
        self.free = free

    def told(self):
        return ["NoRoom", self.needed, self.free]


class NoHead(WoodError):
    def __init__(self, name):
        self.name = name

    def told(self):
        return ["NoHead", self.name]


class OldHead(WoodError):
    def __init__(self, name):
        self.name = name

    def told(self):
        return ["OldHead", self.name]


class NotGrowth(WoodError):
    def __init__(self, name):
        self.name = name

    def told(self):
        return ["NotGrowth", self.name]


class NotMake(WoodError):
    def __init__(self, name):
        self.name = name

    def told(self):
        return ["NotMake", self.name]


class Rootless(WoodError):
    def __init__(self, name):
        self.name = name

    def told(self):
        return ["Rootless", self.name]


class Needed(WoodError):
    def __init__(self, name, by):
        self.name = name
        self.by = by

    def told(self):
        return ["Needed", self.name, self.by]


class NoPlace(WoodError):
    def __init__(self, place):
        self.place = place

    def told(self):
        return ["NoPlace", self.place]


class NoPiece(WoodError):
    def __init__(self, place):
        self.place = place

    def told(self):
        return ["NoPiece", self.place]


class Spoilt(WoodError):
    def __init__(self, place):
        self.place = place

    def told(self):
        return ["Spoilt", self.place]


class BadRow(WoodError):
    def __init__(self, at):
        self.at = at

    def told(self):
        return ["BadRow", self.at]


class NoBase(WoodError):
    def __init__(self, word, stamp):
        self.word = word
        self.stamp = stamp

    def told(self):
        return ["NoBase", self.word, self.stamp]


class NoLine(WoodError):
    def __init__(self, line):
        self.line = line

    def told(self):
        return ["NoLine", self.line]
