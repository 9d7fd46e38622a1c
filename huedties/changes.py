"""Whole hueings with as few changes as can be."""

from huedties.search import searched
from huedties.webs import meets


class Sparing:
    """Looks for a whole hueing in which fewer than number of the ties that had hues have another one.

    Choices are a dict of the open hues of the ties that have got none yet; now has those that the others have got, and
    found the trees of what was tried.
    """

    def __init__(self, web, hueing, number):
        count = len(web[1])
        self.near = [[other for other in range(count) if meets(web, tie, other)] for tie in range(count)]
        self.old = list(hueing)
        self.number = number
        self.now = [None] * count
        self.found = {}

    def cost(self, tie, hue):
        return 0 if self.old[tie] in (None, hue) else 1

    def lost(self, choices):
        """How many of these that had hues can't have theirs any more."""
        return len([tie for tie, hues in choices.items() if self.old[tie] is not None and self.old[tie] not in hues])

    def chosen(self, choices):
        """The tie to go on with: of the fewest open hues, so that few ways are opened."""
        meeting = {tie: len([other for other in self.near[tie] if other in choices]) for tie in choices}
        return min(list(choices), key=lambda tie: (len(choices[tie]), -meeting[tie]))

    def left(self, choices, tie, hue):
        """The choices of the others, once the tie has this hue."""
        near = self.near[tie]
        return {other: [own for own in hues if own != hue or other not in near]
                for other, hues in choices.items() if other != tie}

    def closed(self, choices, spent):
        """A tree that shows that it isn't there, with so many changed already; None where now is one."""
        if spent + self.lost(choices) >= self.number:
            return ("dear",)
        if not choices:
            return None
        # What comes hangs on these alone, and many ways lead to the same.
        case = (spent, tuple([(tie, tuple(hues)) for tie, hues in choices.items()]))
        if case not in self.found:
            tree = self.tried(choices, spent)
            if tree is None:
                return None
            self.found[case] = tree
        return self.found[case]

    def tried(self, choices, spent):
        """Such a tree or None, by trying the open hues of one of the ties."""
        tie = self.chosen(choices)
        trees = []
        for hue in choices[tie]:
            self.now[tie] = hue
            tree = self.closed(self.left(choices, tie, hue), spent + self.cost(tie, hue))
            if tree is None:
                return None
            trees.append(tree)
        return ("try", tie, tuple(trees))


def of_tries(tree):
    """A tree of pairs (tie, trees) as one of tries."""
    tie, trees = tree
    return ("try", tie, tuple([of_tries(later) for later in trees]))


def spared(web, hueing, hues, number):
    """("hueing", whole) with fewer changes than number, or ("none", tree)."""
    search = Sparing(web, hueing, number)
    tree = search.closed({tie: list(range(hues)) for tie in range(len(web[1]))}, 0)
    if tree is None:
        return ("hueing", list(search.now))
    return ("none", tree)


def least_changed(web, hueing, hues):
    word, told = searched(web, [list(range(hues))] * len(web[1]), False)
    if word == "none":
        return ("none", of_tries(told))
    number = 0
    tree = ("dear",)
    word, told = spared(web, hueing, hues, 1)
    # A whole hueing is there, so one is found in the end.
    while word == "none":
        number += 1
        tree = told
        word, told = spared(web, hueing, hues, number + 1)
    return ("least", number, told, tree)
