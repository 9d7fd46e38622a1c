"""What checks whole hueings with as few changes as can be, and the trees that show that fewer don't do.

A node is ("dear",) or a tuple ("try", tie, trees), with a tree for each hue that the tie may have on the way. A way is
a dict of the hues of the ties from the first node on.
"""

from huedties.hueings import is_whole
from huedties.plain import is_number
from huedties.treecheck import open_hues
from huedties.webs import has_tie


def may_keep(web, lists, way, tie, hue):
    if tie in way:
        return way[tie] == hue
    return hue in open_hues(web, lists, False, way, tie)


def sure_changes(web, hueing, lists, way):
    """How many of the ties that had hues have another one on the way, or can't have theirs any more."""
    had = [(tie, hue) for tie, hue in enumerate(hueing) if hue is not None]
    return len([tie for tie, hue in had if not may_keep(web, lists, way, tie, hue)])


def is_dear(web, hueing, lists, number, way):
    # Without a number nothing is too dear.
    return number is not None and sure_changes(web, hueing, lists, way) >= number


def closes_changes(web, hueing, lists, number, way, tree):
    """Whether anything is a tree that shows that the way leads to no whole hueing of fewer changes than number."""
    if not isinstance(tree, tuple):
        return False
    if tree == ("dear",):
        return is_dear(web, hueing, lists, number, way)
    if len(tree) != 3 or tree[0] != "try" or not isinstance(tree[2], tuple):
        return False
    tie, trees = tree[1:]
    if not has_tie(web, tie) or tie in way:
        return False
    hues = open_hues(web, lists, False, way, tie)
    if len(trees) != len(hues):
        return False
    for hue, later in zip(hues, trees):
        longer = dict(way)
        longer[tie] = hue
        if not closes_changes(web, hueing, lists, number, longer, later):
            return False
    return True


def count_changes(hueing, whole):
    return len([hue for hue, later in zip(hueing, whole) if hue is not None and later != hue])


def is_least(web, hueing, hues, number, whole):
    if not is_number(number) or not is_whole(web, whole) or any([hue >= hues for hue in whole]):
        return False
    return count_changes(hueing, whole) == number


def shows_changed(web, hueing, hues, thing):
    if not isinstance(thing, tuple):
        return False
    lists = [list(range(hues))] * len(web[1])
    if len(thing) == 2 and thing[0] == "none":
        return closes_changes(web, hueing, lists, None, {}, thing[1])
    if len(thing) != 4 or thing[0] != "least":
        return False
    number, whole, tree = thing[1:]
    if not is_least(web, hueing, hues, number, whole):
        return False
    return closes_changes(web, hueing, lists, number, {}, tree)
