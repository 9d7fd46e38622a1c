"""Trees that show that ties can't all get hues out of their lists.

A node is a tuple (tie, trees), with a tree for each hue that the tie may have on the way. A way is a dict of the hues
of the ties from the first node on. Where alike is True, the hues that aren't on the way are alike, so that the least
of them does for all.
"""

from huedties.plain import is_pair
from huedties.webs import has_tie


def lists_of(hueing, hues):
    """The list of each tie, where those that have hues keep them and the others may have all below hues."""
    return [list(range(hues)) if hue is None else [hue] for hue in hueing]


def open_hues(web, lists, alike, way, tie):
    """The hues of its list that a tie, which isn't on the way, may have there, rising."""
    one, other = web[1][tie]
    taken = [hue for near, hue in way.items() if one in web[1][near] or other in web[1][near]]
    free = [hue for hue in lists[tie] if hue not in taken]
    if not alike:
        return free
    known = len(set(list(way.values())))
    return [hue for hue in free if hue <= known]


def closes(web, lists, alike, way, tree):
    """Whether anything is a tree that shows that the way can't be gone on to a whole hueing."""
    if not is_pair(tree) or not isinstance(tree[1], tuple):
        return False
    tie, trees = tree
    if not has_tie(web, tie) or tie in way:
        return False
    hues = open_hues(web, lists, alike, way, tie)
    if len(trees) != len(hues):
        return False
    for hue, later in zip(hues, trees):
        longer = dict(way)
        longer[tie] = hue
        if not closes(web, lists, alike, longer, later):
            return False
    return True
