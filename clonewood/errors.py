"""The refusals.

Each has a class of its own straight under WoodError, so that taking one by name never takes another.
"""


class WoodError(ValueError):
    pass


class NoCells(WoodError):
    pass


class PowerGone(WoodError):
    pass


class Down(WoodError):
    pass


class NoWood(WoodError):
    pass


class NoWord(WoodError):
    def __init__(self, found):
        self.found = found


class NoPath(WoodError):
    def __init__(self, path):
        self.path = path


class NotThere(WoodError):
    def __init__(self, path):
        self.path = path


class There(WoodError):
    def __init__(self, path):
        self.path = path


class NotFolder(WoodError):
    def __init__(self, path):
        self.path = path


class NotFile(WoodError):
    def __init__(self, path):
        self.path = path


class Within(WoodError):
    def __init__(self, path):
        self.path = path


class TooDeep(WoodError):
    def __init__(self, path):
        self.path = path


class Crowded(WoodError):
    def __init__(self, path):
        self.path = path


class NoSpan(WoodError):
    def __init__(self, at, long):
        self.at = at
        self.long = long


class TooMany(WoodError):
    def __init__(self, many):
        self.many = many


class NoFloor(WoodError):
    def __init__(self, many):
        self.many = many


class Over(WoodError):
    def __init__(self, path, needed):
        self.path = path
        self.needed = needed


class NoRoom(WoodError):
    def __init__(self, needed, free):
        self.needed = needed
        self.free = free


class NoHead(WoodError):
    def __init__(self, name):
        self.name = name


class OldHead(WoodError):
    def __init__(self, name):
        self.name = name


class NotGrowth(WoodError):
    def __init__(self, name):
        self.name = name


class NotMake(WoodError):
    def __init__(self, name):
        self.name = name


class Rootless(WoodError):
    def __init__(self, name):
        self.name = name


class Needed(WoodError):
    def __init__(self, name, by):
        self.name = name
        self.by = by


class NoPlace(WoodError):
    def __init__(self, place):
        self.place = place


class NoPiece(WoodError):
    def __init__(self, place):
        self.place = place


class Spoilt(WoodError):
    def __init__(self, place):
        self.place = place


class BadRow(WoodError):
    def __init__(self, at):
        self.at = at


class NoBase(WoodError):
    def __init__(self, word, stamp):
        self.word = word
        self.stamp = stamp


class NoLine(WoodError):
    def __init__(self, line):
        self.line = line
