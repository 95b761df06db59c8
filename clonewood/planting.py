"""Woods planted on a floor, and woods found on one."""

from clonewood.births import Births
from clonewood.books import Counts
from clonewood.errors import NoPiece, NoPlace, Rootless, Spoilt
from clonewood.heads import head_of, need_tops
from clonewood.knots import is_knot
from clonewood.trees import reach_by
from clonewood.words import need_word
from clonewood.wood import Wood, knot_on


def book_on(floor, births):
    def points(place):
        return knot_on(floor, place).points()

    def born(place):
        return knot_on(floor, place).born

    return Births(points, born) if births else Counts(points, born)


def planted(floor, word, name, births=False):
    need_word(word)
    wood = Wood(floor, word, 0, [], [], book_on(floor, births), [])
    # The first growth begins just as any growth that begins on nothing.
    wood.sprout(name)
    return wood


def need_origins(lines, heads):
    lost = [line for line, base, origin in lines if base > 0 and origin == ""]
    names = [head[0] for head in heads if head[1] in lost]
    if names:
        raise Rootless(min(names))


def stand_line(book, line, base, heads):
    makes = [(head.stamp, head.root) for head in heads if head.line == line and head.kind() == "make"]
    roots = [head.root for head in heads if head.line == line and head.kind() == "growth"]
    book.stood(line, base, sorted(makes), roots[0] if roots else None)


def bears_knot(floor, place):
    try:
        return is_knot(floor.read(place))
    except (NoPlace, NoPiece, Spoilt):
        return False


def points_there(floor, place):
    return knot_on(floor, place).points() if bears_knot(floor, place) else []


def resting_behind(floor, tops, book):
    if len(tops) < 2 or tops[1][1] != tops[0][1] - 1:
        return []
    reached = reach_by(lambda place: points_there(floor, place), [head[3] for head in tops[1][4]])
    if not all([bears_knot(floor, place) for place in reached]):
        return []
    return [place for place in reached if not book.lies(place)]


def come_up(floor, births=False):
    tops = need_tops(floor)
    top = tops[0]
    if births:
        need_origins(top[3], top[4])
    heads = [head_of(told) for told in top[4]]
    book = book_on(floor, births)
    for line, base, origin in top[3]:
        stand_line(book, line, base, heads)
    return Wood(floor, top[2], top[1], list(top[3]), heads, book, resting_behind(floor, tops, book))
