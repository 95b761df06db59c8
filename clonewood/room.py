"""Room: which heads come to which places, and how many places stand beneath a path."""

from clonewood.trees import folders_in, reach, weight


def sharers(wood):
    names = {}
    # Heads are told by names, so each place's names rise.
    for name, kind, root in wood.heads():
        for place in reach(lambda below: wood.knot_at(below), [root]):
            names[place] = names.get(place, ()) + (name,)
    return names


def own(wood, names):
    by_place = sharers(wood)
    for name in names:
        wood.root_of(name)
    return [place for place in sorted(by_place) if all([name in names for name in by_place[place]])]


def shares(wood):
    many = {}
    for names in list(sharers(wood).values()):
        many[names] = many.get(names, 0) + 1
    return sorted(many.items())


def room(wood, name):
    comes_to = weight_at(wood, name, "")
    many = len(own(wood, [name]))
    return (many, comes_to - many)


def weight_at(wood, name, path):
    return weight(lambda place: wood.knot_at(place), wood.seek_at(name, path)[1])


def limits_at(wood, name):
    def look(place):
        return wood.knot_at(place)

    folders = folders_in(look, wood.root_of(name))
    return [(path, look(place).limit, weight(look, place)) for path, place in folders if look(place).limit != 0]
