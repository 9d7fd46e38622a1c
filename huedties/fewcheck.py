"""Papers that show that fewer than so many hues don't do, and what checks them."""

from huedties.hueings import is_whole
from huedties.plain import is_number, is_pair, is_rising
from huedties.treecheck import closes
from huedties.webs import count_at, has_place, within


def is_full_place(web, hues, place):
    return has_place(web, place) and count_at(web, place) > hues


def is_full_set(web, hues, places):
    # Of the ties within 2 k + 1 places at most k have one and the same hue.
    if not isinstance(places, tuple) or not is_rising(places) or not all([has_place(web, place) for place in places]):
        return False
    if len(places) < 3 or len(places) % 2 == 0:
        return False
    return len(within(web, places)) > hues * (len(places) // 2)


def is_full_tree(web, hues, tree):
    # No tie may have a hue beyond the number of hues on its way, so none beyond the number of ties.
    known = list(range(min(hues, len(web[1]))))
    return closes(web, [known] * len(web[1]), True, {}, tree)


def shows_fewer(web, hues, paper):
    if not is_pair(paper):
        return False
    word, thing = paper
    if word == "place":
        return is_full_place(web, hues, thing)
    if word == "set":
        return is_full_set(web, hues, thing)
    return word == "tree" and is_full_tree(web, hues, thing)


def shows_fewest(web, thing):
    if not isinstance(thing, tuple) or len(thing) != 3:
        return False
    number, hueing, paper = thing
    if not is_number(number) or number < 0:
        return False
    if not is_whole(web, hueing) or any([hue >= number for hue in hueing]):
        return False
    if number == 0:
        return paper is None
    return shows_fewer(web, number - 1, paper)
