"""Hueings: a hue or None for each tie, such that ties that meet have unlike hues."""

from huedties.plain import is_listed, is_number
from huedties.webs import ties_at


def is_hue(thing):
    return is_number(thing) and thing >= 0


def is_hueing(web, thing):
    if not is_listed(thing) or len(thing) != len(web[1]):
        return False
    if not all([item is None or is_hue(item) for item in thing]):
        return False
    return clash_of(web, thing) is None


def is_whole(web, thing):
    return is_hueing(web, thing) and None not in thing


def clash_of(web, row):
    # The first tie of a clash is the first of its hue at the place where it meets the other:
    # one ahead of it there would clash with it, and so come first itself.
    first = {}
    clashes = []
    for tie, ends in enumerate(web[1]):
        hue = row[tie]
        if hue is not None:
            for place in ends:
                earlier = first.setdefault((place, hue), tie)
                if earlier != tie:
                    clashes.append((earlier, tie))
    return min(clashes, default=None)


def hues_at(web, hueing, place):
    return sorted([hueing[tie] for tie in ties_at(web, place) if hueing[tie] is not None])


def free_at(web, hueing, place, hues):
    taken = hues_at(web, hueing, place)
    return [hue for hue in range(hues) if hue not in taken]


def classes(hueing, hues):
    return [[tie for tie, own in enumerate(hueing) if own == hue] for hue in range(hues)]


def simplest(hueing):
    names = {}
    for hue in hueing:
        if hue is not None and hue not in names:
            names[hue] = len(names)
    return [names.get(hue) for hue in hueing]
