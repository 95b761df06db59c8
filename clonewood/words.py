"""What is a whole number, a word, a path."""

from clonewood.errors import NoPath, NoWord

SIGNS = "abcdefghijklmnopqrstuvwxyz0123456789"
MOST_SIGNS = 8
MOST_NAMES = 6
GREATEST = 4294967295


def is_whole(thing):
    # True and False are ints to Python, but truths and no numbers here.
    return isinstance(thing, int) and not isinstance(thing, bool)


def is_within(thing, low, high):
    return is_whole(thing) and low <= thing <= high


def is_stamp(thing):
    return is_within(thing, 1, GREATEST)


def is_tuple_of(thing, many):
    return isinstance(thing, tuple) and len(thing) == many


def is_rising(things):
    return all([one < other for one, other in zip(things, things[1:])])


def is_word(thing):
    if not isinstance(thing, str) or not 1 <= len(thing) <= MOST_SIGNS:
        return False
    return all([sign in SIGNS for sign in thing])


def need_word(thing):
    if not is_word(thing):
        raise NoWord(thing)


def names_of(path):
    if not isinstance(path, str):
        raise NoPath(path)
    # Split, the text without signs would give one empty name, where the top folder has none.
    if path == "":
        return []
    names = path.split("/")
    if len(names) > MOST_NAMES or not all([is_word(name) for name in names]):
        raise NoPath(path)
    return names


def path_of(names):
    return "/".join(names)
