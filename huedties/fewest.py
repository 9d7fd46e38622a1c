"""The fewest hues that do, with a paper that one fewer doesn't."""

from huedties.search import searched
from huedties.webs import count_at, most_at, parts, within


def odd_sets(web):
    """The rising tuples of three or more places of one part, odd in number."""
    told = []
    for part in parts(web):
        groups = [()]
        for place in part:
            groups = groups + [group + (place,) for group in groups]
        told.extend([group for group in groups if len(group) > 2 and len(group) % 2 == 1])
    return told


def place_of_most(web):
    most = most_at(web)
    return [place for place in range(web[0]) if count_at(web, place) == most][0]


def needed(web):
    """A pair of a number of hues, and a paper of a place or of a set that one less doesn't do."""
    if not web[1]:
        return (0, None)
    number = most_at(web)
    paper = ("place", place_of_most(web))
    for places in odd_sets(web):
        half = len(places) // 2
        more = (len(within(web, places)) + half - 1) // half
        if more > number:
            number = more
            paper = ("set", places)
    return (number, paper)


def searched_below(web, hues):
    return searched(web, [list(range(hues))] * len(web[1]), True)


def fewest(web):
    number, paper = needed(web)
    word, told = searched_below(web, number)
    while word == "none":
        number += 1
        paper = ("tree", told)
        word, told = searched_below(web, number)
    return (number, told, paper)
