"""The search for hues out of lists, and the tree that it leaves where there are none, as treecheck has it."""

from huedties.webs import meets


class Search:
    """Gives ties hues out of their lists: now has those that they have got, found the trees of what was tried."""

    def __init__(self, web, lists, alike):
        count = len(web[1])
        self.ends = list(web[1])
        self.near = [[other for other in range(count) if meets(web, tie, other)] for tie in range(count)]
        self.lists = [list(hues) for hues in lists]
        self.alike = alike
        self.now = [None] * count
        self.found = {}

    def open_hues(self, tie, known):
        """The hues that a tie may have; known is how many hues are on the way, where those that aren't are alike."""
        taken = [self.now[other] for other in self.near[tie]]
        hues = [hue for hue in self.lists[tie] if hue not in taken]
        return [hue for hue in hues if hue <= known] if self.alike else hues

    def room_at(self, place, choices):
        """How many hues more than ties are left at a place."""
        ties = [tie for tie in choices if place in self.ends[tie]]
        return len({hue for tie in ties for hue in choices[tie]}) - len(ties)

    def chosen(self, choices):
        """The tie to go on with, out of a dict of the open hues of ties, such that the tree is likely to be small."""
        least = min([len(hues) for hues in choices.values()])
        ties = [tie for tie, hues in choices.items() if len(hues) == least]
        # A tie without a choice opens no second way, so the first does.
        if least < 2:
            return ties[0]
        places = {place: True for tie in ties for place in self.ends[tie]}
        rooms = {place: self.room_at(place, choices) for place in places}
        meeting = {tie: len([other for other in self.near[tie] if other in choices]) for tie in ties}
        return min(ties, key=lambda tie: (sorted([rooms[place] for place in self.ends[tie]]), -meeting[tie]))

    def group_of(self, tie, left):
        """All out of left that the tie leads to, by ties that meet; they are taken out of it."""
        del left[tie]
        group = [tie]
        waiting = [tie]
        while waiting:
            last = waiting.pop()
            for other in self.near[last]:
                if other in left:
                    del left[other]
                    group.append(other)
                    waiting.append(other)
        return group

    def closed_group(self, ties, choices, known):
        """A tree that shows that these ties, of these open hues, can't get hues; None where they have got them."""
        # What comes hangs on these alone, and many ways lead to the same.
        case = (known if self.alike else 0, tuple([(tie, tuple(choices[tie])) for tie in sorted(ties)]))
        if case not in self.found:
            tree = self.grown(ties, choices, known)
            if tree is None:
                return None
            self.found[case] = tree
        return self.found[case]

    def grown(self, ties, choices, known):
        """Such a tree or None, by trying the open hues of one of the ties."""
        tie = self.chosen({other: choices[other] for other in ties})
        rest = [other for other in ties if other != tie]
        trees = []
        for hue in choices[tie]:
            self.now[tie] = hue
            tree = self.closed(rest, max(known, hue + 1))
            if tree is None:
                return None
            trees.append(tree)
        self.now[tie] = None
        return (tie, tuple(trees))

    def closed(self, ties, known):
        """Such a tree, too; ties that don't lead to one another are asked group by group, as none hinders the other."""
        choices = {}
        for tie in ties:
            choices[tie] = self.open_hues(tie, known)
            # Most ways end here, so nothing else is reckoned ahead of it.
            if not choices[tie]:
                return (tie, ())
        left = {tie: True for tie in ties}
        done = []
        for tie in ties:
            if tie in left:
                group = self.group_of(tie, left)
                tree = self.closed_group(group, choices, known)
                if tree is not None:
                    self.drop(done)
                    return tree
                done.extend(group)
        return None

    def drop(self, ties):
        for tie in ties:
            self.now[tie] = None


def searched(web, lists, alike):
    """("hueing", hueing) or ("none", tree)."""
    search = Search(web, lists, alike)
    tree = search.closed(list(range(len(web[1]))), 0)
    if tree is None:
        return ("hueing", list(search.now))
    return ("none", tree)
