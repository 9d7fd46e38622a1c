"""What checks hues out of lists, and trees that show that there are none."""

from huedties.hueings import is_whole
from huedties.plain import is_pair
from huedties.treecheck import closes, lists_of


def shows_lists(web, lists, thing):
    if not is_pair(thing):
        return False
    word, told = thing
    if word == "hueing":
        return is_whole(web, told) and all([hue in hues for hue, hues in zip(told, lists)])
    return word == "none" and closes(web, lists, False, {}, told)


def shows_filled(web, hueing, hues, thing):
    return shows_lists(web, lists_of(hueing, hues), thing)
