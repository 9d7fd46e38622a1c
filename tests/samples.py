"""Webs, hueings and odd things to ask of, and the ways in which the tests ask."""

import itertools
import random
import unittest

from huedties.errors import HueError, NotTwoSides
from huedties.sides import shows_sides, two_sides

NOTHING = (0, ())
LONE = (1, ())
APART = (4, ())
ONE_TIE = (2, ((0, 1),))
PATH = (4, ((0, 1), (1, 2), (2, 3)))
STAR = (5, ((0, 1), (0, 2), (0, 3), (0, 4)))
TRIANGLE = (3, ((0, 1), (1, 2), (0, 2)))
SQUARE = (4, ((0, 1), (1, 2), (2, 3), (0, 3)))
FIVE = (5, ((0, 1), (1, 2), (2, 3), (3, 4), (0, 4)))
ALIKE = (2, ((0, 1), (0, 1), (0, 1)))
TWO_ALIKE = (3, ((0, 1), (1, 2), (0, 1)))
# Three parts, one of them a place alone, with the parts' ties mingled.
MINGLED = (8, ((5, 7), (0, 2), (1, 7), (2, 4), (1, 5), (0, 4), (3, 4)))
PETERSEN = (10, tuple([(k, (k + 1) % 5) if k < 4 else (0, 4) for k in range(5)]
                      + [(k, k + 5) for k in range(5)]
                      + [(5, 7), (7, 9), (6, 9), (6, 8), (5, 8)]))


def complete(many):
    return (many, tuple(itertools.combinations(range(many), 2)))


def thick_ring(many, thick):
    """A ring whose neighbours have so many alike ties."""
    ties = [tuple(sorted((k, (k + 1) % many))) for k in range(many)]
    return (many, tuple(ties * thick))


NAMED = [NOTHING, LONE, APART, ONE_TIE, PATH, STAR, TRIANGLE, SQUARE, FIVE, ALIKE, TWO_ALIKE,
         MINGLED, PETERSEN, complete(4), complete(5), thick_ring(3, 3), thick_ring(5, 2)]


def small_webs(most_places=4, most_ties=3):
    """Each web of so many places and ties at most, ties in each order."""
    for many in range(most_places + 1):
        pairs = list(itertools.combinations(range(many), 2))
        for count in range(most_ties + 1):
            for ties in itertools.product(pairs, repeat=count):
                yield (many, tuple(ties))


def small_sided_webs(most_places=4, most_ties=3):
    """Those of two sides; four places are at most."""
    for web in small_webs(most_places, most_ties):
        # With so few places an odd ring has three.
        threes = [set(itertools.combinations(three, 2)) for three in itertools.combinations(range(4), 3)]
        if not any(three <= set(web[1]) for three in threes):
            yield web


def chance_web(seed, many, count, spots=None):
    """A web of so many places and ties, of few unlike ones where spots says how few."""
    dice = random.Random(seed)
    pairs = list(itertools.combinations(range(many), 2))
    if spots is not None:
        pairs = dice.sample(pairs, min(spots, len(pairs)))
    return (many, tuple([dice.choice(pairs) for k in range(count)]))


def greater_webs():
    yield from [chance_web(seed, 6 + seed, 9 + seed) for seed in range(8)]
    yield from [chance_web(seed, 5, 18, 6) for seed in range(20, 26)]
    yield chance_web(50, 30, 90)
    yield chance_web(51, 12, 90)


def sided_web(seed, one, other, count, spots=None):
    """A web of two sides of so many places, which are mingled, of few unlike ties where spots says how few."""
    dice = random.Random(seed)
    names = dice.sample(range(one + other), one + other)
    pairs = [tuple(sorted((names[k], names[one + j]))) for k in range(one) for j in range(other)]
    if spots is not None:
        pairs = dice.sample(pairs, min(spots, len(pairs)))
    return (one + other, tuple([dice.choice(pairs) for k in range(count)]))


def full_sides(one, other, thick=1):
    """Each place of the one side tied so many times with each of the other."""
    return (one + other, tuple([(k, one + j) for k in range(one) for j in range(other)] * thick))


# Trees, rings, stars, thick ties, several parts, and webs of everyday size, all of two sides.
SIDED = [NOTHING, LONE, APART, ONE_TIE, PATH, STAR, SQUARE, ALIKE, TWO_ALIKE, full_sides(2, 3), full_sides(3, 3),
         full_sides(4, 4, 2), full_sides(1, 6, 3), thick_ring(4, 3), thick_ring(6, 5), thick_ring(30, 3),
         (2, ((0, 1),) * 90), (9, ((1, 8), (0, 3), (0, 3), (2, 3), (4, 8), (4, 5), (1, 5), (2, 6))),
         full_sides(9, 10), full_sides(15, 6)]
SIDED += [sided_web(seed, 2 + seed % 5, 1 + seed % 4, 3 + seed) for seed in range(20)]
SIDED += [sided_web(seed, 5, 6, 25, 12) for seed in range(20, 30)]
SIDED += [sided_web(30, 15, 15, 90), sided_web(31, 15, 15, 90, 30), sided_web(32, 4, 26, 90), sided_web(33, 10, 12, 40)]

# A ring of five at the end of a way that has parts of two sides around it, too.
UNSIDED = [TRIANGLE, FIVE, MINGLED, PETERSEN, complete(4), thick_ring(3, 2), thick_ring(5, 2), thick_ring(29, 3),
           (12, ((0, 1), (2, 3), (3, 4), (4, 5), (5, 6), (6, 7), (7, 8), (4, 8), (9, 11), (9, 11))),
           chance_web(60, 30, 90), chance_web(61, 8, 90)]


def meet(web, one, other):
    return one != other and bool(set(web[1][one]) & set(web[1][other]))


def is_good(web, row):
    """Whether a row of hues and Nones is a hueing, by the words of the document."""
    if not isinstance(row, list) or len(row) != len(web[1]):
        return False
    if any(type(hue) is not int or hue < 0 for hue in row if hue is not None):
        return False
    return not any(row[one] is not None and row[one] == row[other] and meet(web, one, other)
                   for one, other in itertools.combinations(range(len(row)), 2))


def hueing_of(web, seed=0, gaps=0, extra=1):
    """A hueing by chance; of each ten ties some so many are left without a hue."""
    dice = random.Random(seed)
    row = [None] * len(web[1])
    for tie in dice.sample(range(len(row)), len(row)):
        if dice.randrange(10) < gaps:
            continue
        taken = [row[k] for k in range(len(row)) if meet(web, k, tie)]
        free = [hue for hue in range(len(row) + extra) if hue not in taken]
        row[tie] = dice.choice(free[:1 + extra])
    return row


def narrow_hueing(web, hues, seed=0):
    """A hueing below hues, by chance, in which ties for which there was no hue left are without one."""
    dice = random.Random(seed)
    row = [None] * len(web[1])
    for tie in dice.sample(range(len(row)), len(row)):
        taken = [row[k] for k in range(len(row)) if meet(web, k, tie)]
        free = [hue for hue in range(hues) if hue not in taken]
        row[tie] = dice.choice(free) if free else None
    return row


def whole_hueings(web, hues):
    for row in itertools.product(range(hues), repeat=len(web[1])):
        if is_good(web, list(row)):
            yield list(row)


def some_hueings(web, hues):
    for row in itertools.product((None,) + tuple(range(hues)), repeat=len(web[1])):
        if is_good(web, list(row)):
            yield list(row)


def enough(web):
    """most_at and thickest together, by their words."""
    ends = [place for tie in web[1] for place in tie]
    return (max([ends.count(place) for place in ends], default=0)
            + max([web[1].count(tie) for tie in web[1]], default=0))


def one_at(web, row, place, hue):
    """The number of the tie of that hue at the place, or None."""
    found = [tie for tie, ends in enumerate(web[1]) if place in ends and row[tie] == hue]
    return found[0] if found else None


def walk(web, row, place, one, other):
    """The ties of row_from, by its words; None where it is refused."""
    if place not in range(web[0]) or one == other or one_at(web, row, place, other) is not None:
        return None
    ties = []
    while one_at(web, row, place, one) is not None:
        tie = one_at(web, row, place, one)
        ties.append(tie)
        place = sum(web[1][tie]) - place
        one, other = other, one
    return ties


def behind(web, row, step):
    """The hueing behind a step, by the words of the document; None where it isn't let by."""
    word, *parts = step
    new = list(row)
    if word == "row":
        place, one, other = parts
        ties = walk(web, row, place, one, other)
        if ties is None:
            return None
        for tie in ties:
            new[tie] = {one: other, other: one}[row[tie]]
        return new
    if any(tie not in range(len(row)) for tie in (parts[:1] if word == "hue" else parts)):
        return None
    if word == "hue":
        fits = row[parts[0]] is None and parts[1] is not None
        new[parts[0]] = parts[1]
    elif word == "drop":
        fits = row[parts[0]] is not None
        new[parts[0]] = None
    else:
        tie, other = parts
        fits = row[tie] is not None and row[other] is None and meet(web, tie, other)
        new[other] = row[tie]
        new[tie] = None
    return new if fits and is_good(web, new) else None


def few_hues(web, hues):
    """Tells of a way, a tuple of pairs (tie, hue), and a tie the hues that [13] has trees for there."""
    def open_to(way, tie):
        unlike = {hue for other, hue in way}
        taken = {hue for other, hue in way if meet(web, tie, other)}
        return [hue for hue in range(len(web[1]) + 1) if hue < hues and hue <= len(unlike) and hue not in taken]
    return open_to


def list_hues(web, lists):
    """Tells of a way and a tie the hues that [15] has trees for there."""
    def open_to(way, tie):
        taken = {hue for other, hue in way if meet(web, tie, other)}
        return [hue for hue in sorted(lists[tie]) if hue not in taken]
    return open_to


def is_tree(web, open_to, tree, way=()):
    """Whether anything is a tree by the words of the document, behind a way."""
    if type(tree) is not tuple or len(tree) != 2 or type(tree[1]) is not tuple or type(tree[0]) is not int:
        return False
    tie, trees = tree
    if tie not in range(len(web[1])) or tie in [other for other, hue in way]:
        return False
    hues = open_to(way, tie)
    return len(trees) == len(hues) and all(is_tree(web, open_to, later, way + ((tie, hue),))
                                           for hue, later in zip(hues, trees))


def grown(web, open_to, dice, way=()):
    """A tree by a search of its own, ties chosen by chance; None where there is a whole hueing."""
    left = [tie for tie in range(len(web[1])) if tie not in [other for other, hue in way]]
    if not left:
        return None
    tie = dice.choice(left)
    trees = []
    for hue in open_to(way, tie):
        later = grown(web, open_to, dice, way + ((tie, hue),))
        if later is None:
            return None
        trees.append(later)
    return (tie, tuple(trees))


def ends_of(web):
    return [place for tie in web[1] for place in tie]


def is_paper(web, hues, paper):
    """Whether anything is a paper of [13], by the words of the document."""
    if type(paper) is not tuple or len(paper) != 2 or type(paper[0]) is not str:
        return False
    word, thing = paper
    if word == "place":
        return type(thing) is int and thing in range(web[0]) and ends_of(web).count(thing) > hues
    if word == "set":
        if type(thing) is not tuple or any(type(place) is not int for place in thing):
            return False
        if list(thing) != sorted(set(thing)) or not set(thing) <= set(range(web[0])):
            return False
        inside = [tie for tie in web[1] if set(tie) <= set(thing)]
        return any(len(thing) == 2 * k + 1 and len(inside) > hues * k for k in range(1, 40))
    return word == "tree" and is_tree(web, few_hues(web, hues), thing)


def is_fewest(web, thing):
    """Whether anything is what shows_fewest takes, by the words of the document."""
    if type(thing) is not tuple or len(thing) != 3 or type(thing[0]) is not int or type(thing[1]) not in (list, tuple):
        return False
    number, hueing, paper = thing
    if number < 0 or not is_good(web, list(hueing)) or any(hue is None or hue >= number for hue in hueing):
        return False
    return paper is None if number == 0 else is_paper(web, number - 1, paper)


def has_hueing(web, lists, row=()):
    """Whether there is a whole hueing out of the lists, tie by tie in their order."""
    tie = len(row)
    if tie == len(web[1]):
        return True
    taken = [row[other] for other in range(tie) if meet(web, tie, other)]
    return any(has_hueing(web, lists, row + (hue,)) for hue in lists[tie] if hue not in taken)


def is_out_of(web, lists, thing):
    """Whether anything is a pair of [15], by the words of the document."""
    if type(thing) is not tuple or len(thing) != 2 or type(thing[0]) is not str:
        return False
    word, told = thing
    if word == "hueing":
        if type(told) not in (list, tuple) or not is_good(web, list(told)):
            return False
        return all(hue is not None and hue in hues for hue, hues in zip(told, lists))
    return word == "none" and is_tree(web, list_hues(web, lists), told)


def lists_ahead(hueing, hues):
    return [list(range(hues)) if hue is None else [hue] for hue in hueing]


def reached(web, start, gone=None):
    """All places to which ties lead from start, without the place gone and its ties."""
    near = {place: set() for place in range(web[0])}
    for one, other in web[1]:
        near[one].add(other)
        near[other].add(one)
    found = {start}
    waiting = [start]
    while waiting:
        for there in near[waiting.pop()] - found - {gone}:
            found.add(there)
            waiting.append(there)
    return found


def cuts_of(web):
    """The cuts, by the words of [21]."""
    told = []
    for place in range(web[0]):
        others = sorted(reached(web, place) - {place})
        if others and reached(web, others[0], place) != set(others):
            told.append(place)
    return told


def blocks_of(web):
    """The blocks of [21], by a look at what still leads from the one far end to the other without the place between."""
    block = list(range(len(web[1])))
    for place in range(web[0]):
        around = [tie for tie, ends in enumerate(web[1]) if place in ends]
        for one in around:
            found = reached(web, sum(web[1][one]) - place, place)
            for other in around:
                if sum(web[1][other]) - place in found:
                    block = [block[one] if mark == block[other] else mark for mark in block]
    return sorted([[tie for tie, mark in enumerate(block) if mark == name] for name in set(block)])


def joined_webs():
    """Webs joined at places: rows of ties, stars, rings joined at a place, one block, several parts, thick ties."""
    yield (30, tuple([(k, k + 1) for k in range(29)]))
    yield (30, tuple([(0, k) for k in range(1, 30)]))
    # Two rings joined at place 2, rings in a row, a ring with ties hanging on, rings joined by a row of ties.
    yield (5, ((0, 1), (1, 2), (0, 2), (2, 3), (3, 4), (2, 4)))
    yield (21, tuple([tie for k in range(0, 20, 2) for tie in ((k, k + 1), (k + 1, k + 2), (k, k + 2))]))
    yield (8, ((0, 1), (1, 2), (2, 3), (0, 3), (0, 4), (0, 4), (3, 5), (5, 6), (3, 7), (5, 7), (3, 6)))
    yield (11, FIVE[1] + ((4, 5), (5, 6)) + tuple([(a + 6, b + 6) for a, b in FIVE[1]]))
    # Webs that take one hue more than the greatest count, joined where another block has many ties, and hung on.
    yield (13, PETERSEN[1] + ((9, 10), (10, 11), (11, 12), (10, 12)))
    yield (9, tuple([tie for k in range(0, 8, 2) for tie in ((0, k + 1), (k + 1, k + 2), (0, k + 2))]))
    yield (7, ((0, 1),) * 4 + ((1, 2),) * 3 + ((2, 3), (1, 3), (4, 5)))
    yield (13, thick_ring(3, 2)[1] + ((2, 3), (3, 4), (2, 4), (2, 5), (2, 6), (7, 8), (8, 9), (10, 12)))
    for seed in range(12):
        yield chance_web(seed, 8 + seed, 8 + seed)
        yield grown_web(seed, 12)
    yield grown_web(50, 90)


def grown_web(seed, most):
    """A web of rings, thick ties and single ties, each hung on at a place by chance; of so many ties at most."""
    dice = random.Random(seed)
    many, ties = 1, []
    while many < 27:
        start, size = dice.randrange(many), dice.randrange(1, 5)
        if size == 1:
            new = [(start, many)] * dice.choice((1, 1, 2, 3))
        else:
            ring = [start] + list(range(many, many + size - 1))
            new = [(ring[k], ring[(k + 1) % size]) for k in range(size)]
        many += max(1, size - 1)
        ties += [tuple(sorted(tie)) for tie in new]
    names = dice.sample(range(many), many)
    ties = [tuple(sorted((names[one], names[other]))) for one, other in ties][:most]
    return (many, tuple(dice.sample(ties, len(ties))))


def some_of(web, ties):
    return (web[0], tuple([web[1][tie] for tie in ties]))


def is_by_blocks(web, thing):
    """Whether anything is what shows_blocks takes, by the words of the document."""
    if type(thing) is not tuple or len(thing) != 3 or type(thing[0]) is not int or type(thing[1]) not in (list, tuple):
        return False
    number, hueing, paper = thing
    if not is_good(web, list(hueing)) or any(hue is None or hue >= number for hue in hueing):
        return False
    if number == 0 or paper is None:
        return number == 0 and paper is None
    if type(paper) is not tuple or len(paper) < 2 or type(paper[1]) is not int:
        return False
    if paper[0] == "place":
        return len(paper) == 2 and paper[1] in range(web[0]) and ends_of(web).count(paper[1]) == number
    rows = blocks_of(web)
    if paper[0] != "block" or len(paper) != 3 or paper[1] not in range(len(rows)):
        return False
    return is_paper(some_of(web, rows[paper[1]]), number - 1, paper[2])


def is_dear(web, hueing, hues, number, way):
    """Whether so many or more of the ties that had hues have another one behind a way, by the words of [19]."""
    own = dict(way)
    count = 0
    for tie, hue in enumerate(hueing):
        if hue is None:
            continue
        if tie in own:
            count += own[tie] != hue
        elif hue >= hues or any(meet(web, tie, other) and own[other] == hue for other in own):
            count += 1
    return count >= number


def is_change_tree(web, hueing, hues, number, tree, way=()):
    """Whether anything is a tree of [19] behind a way, of try alone where number is None."""
    if type(tree) is not tuple or len(tree) == 0:
        return False
    if tree[0] == "dear":
        return len(tree) == 1 and number is not None and is_dear(web, hueing, hues, number, way)
    if tree[0] != "try" or len(tree) != 3 or type(tree[1]) is not int or type(tree[2]) is not tuple:
        return False
    tie, trees = tree[1:]
    if tie not in range(len(web[1])) or tie in [other for other, hue in way]:
        return False
    taken = [hue for other, hue in way if meet(web, tie, other)]
    free = [hue for hue in range(hues) if hue not in taken]
    return len(free) == len(trees) and all(is_change_tree(web, hueing, hues, number, later, way + ((tie, hue),))
                                           for hue, later in zip(free, trees))


def is_changed(web, hueing, hues, thing):
    """Whether anything is what shows_changed takes, by the words of the document."""
    if type(thing) is not tuple or len(thing) == 0:
        return False
    if thing[0] == "none":
        return len(thing) == 2 and is_change_tree(web, hueing, hues, None, thing[1])
    if thing[0] != "least" or len(thing) != 4 or type(thing[1]) is not int or type(thing[2]) not in (list, tuple):
        return False
    number, whole, tree = thing[1:]
    if not is_good(web, list(whole)) or any(hue is None or hue >= hues for hue in whole):
        return False
    other = [tie for tie, hue in enumerate(hueing) if hue is not None and whole[tie] != hue]
    return len(other) == number and is_change_tree(web, hueing, hues, number, tree)


def change_tree(web, hueing, hues, number, dice, way=()):
    """A tree of [19] grown by chance, of try alone where number is None; None where there is none."""
    if number is not None and is_dear(web, hueing, hues, number, way) and dice.randrange(4):
        return ("dear",)
    left = [tie for tie in range(len(web[1])) if tie not in [other for other, hue in way]]
    if not left:
        return ("dear",) if number is not None and is_dear(web, hueing, hues, number, way) else None
    tie = dice.choice(left)
    taken = [hue for other, hue in way if meet(web, tie, other)]
    trees = []
    for hue in [hue for hue in range(hues) if hue not in taken]:
        later = change_tree(web, hueing, hues, number, dice, way + ((tie, hue),))
        if later is None:
            return None
        trees.append(later)
    return ("try", tie, tuple(trees))


def fewest_changes(web, hueing, hues):
    """The least number of changes of [19], by a search of its own, tie by tie; None without a whole hueing."""
    best = [None]

    def go_on(row, count):
        if best[0] is not None and count >= best[0]:
            return
        tie = len(row)
        if tie == len(web[1]):
            best[0] = count
            return
        taken = [row[other] for other in range(tie) if meet(web, tie, other)]
        for hue in range(hues):
            if hue not in taken:
                go_on(row + (hue,), count + (hueing[tie] not in (None, hue)))
    go_on((), 0)
    return best[0]


def nested(depth):
    thing = 0
    for k in range(depth):
        thing = [thing] if k % 2 else (thing,)
    return thing


ODD_THINGS = [
    None, True, False, 0, 1, -1, 10 ** 40, -10 ** 40, "", "web", "sides", "ring", "hue",
    (), [], (0,), [0], (None,), [None], (None, None), (True,), [True], [False], ("",), ("sides",),
    (0, ()), (0, []), [0, ()], (True, ()), (False, ()), (0, (), ()), (0, None), (0, 0), (-1, ()),
    ("0", ()), (None, ()), (2, ((0, 1),)), (2, [(0, 1)]), (2, ([0, 1],)), (2, ((1, 0),)), (2, ((0, 0),)),
    (2, ((0, 2),)), (2, ((-1, 1),)), (2, ((0, 1, 1),)), (2, ((0,),)), (2, ((False, 1),)), (2, ((0, True),)),
    (2, (("0", "1"),)), (2, ("01",)), (2, (None,)), (2, (0, 1)), (2, ((0, None),)), (2, (((0,), 1),)),
    ("sides", None), ("sides", ()), ("sides", []), ["sides", []], ("sides", [], []), ("sides", 0), ("sides", "01"),
    ("sides", [0, True]), ("sides", [False, 1]), ("sides", [[0], 1]), ("sides", [None]), ("sides", [2]),
    ("ring", None), ("ring", []), ("ring", [0]), ("ring", [True, 0, 2]), ("ring", [None, None, None]),
    ("ring", [-1, 0, 1]), ("ring", [0, 1, 10 ** 40]), ("ring", "012"), ("ring", [[0], [1], [2]]),
    ("ring", ["0", "1", "2"]), (None, []), ([], []), (0, [0, 1, 0]), ([0], [0]), (("sides",), []), (True, True),
    ["0"], [[0]], [(0,)], [-1], [0, 1, 0], [0, 1, 2], [2, 1, 0], (0, 1, 2), [0, None, 1], [None, None, None],
    [0, 1, True], [0, 1, -1], [0, 1, "2"], [0, 1, [2]], [0, 1, 10 ** 40], [0, 1, 2, 3], [True, False, None],
    nested(39), nested(40), [nested(39)], (nested(39), nested(39)), ("ring", nested(39)), ("sides", nested(38)),
    (0, nested(39)), (2, (nested(38),)), ("ring", [nested(38)] * 3),
]


STAND_INS = [None, True, False, -1, 0, 1, 2, 10 ** 40, "", "0", (), [], (0,), [0], (0, ()), nested(20)]


def variants(thing):
    """The thing with just one thing in it otherwise: each part another one, left out, twice, lists for tuples."""
    yield from STAND_INS
    if isinstance(thing, int):
        yield from [thing + 1, thing - 1, -thing - 1, str(thing)]
    if isinstance(thing, (list, tuple)):
        kind = type(thing)
        yield list(thing) if kind is tuple else tuple(thing)
        yield thing + kind([0])
        yield thing + kind([None])
        yield thing + kind([()])
        yield thing[::-1]
        for at, item in enumerate(thing):
            yield thing[:at] + thing[at + 1:]
            yield thing[:at] + thing[at:at + 1] + thing[at:]
            for other in variants(item):
                yield thing[:at] + kind([other]) + thing[at + 1:]


def as_tuples(thing):
    """The thing with tuples in all lists' places."""
    if isinstance(thing, (list, tuple)):
        return tuple([as_tuples(item) for item in thing])
    return thing


def lists_in(thing):
    if not isinstance(thing, (list, tuple)):
        return []
    own = [thing] if isinstance(thing, list) else []
    return own + [found for item in thing for found in lists_in(item)]


def told(thing):
    """The thing as a text, so that True and 1, lists and tuples are unlike."""
    return repr(thing)


def spoil(thing):
    for found in lists_in(thing):
        found.append("spoilt")
        found[0] = "spoilt"


class Asking(unittest.TestCase):
    """Asks, and looks each time at what holds for every question."""

    def ask(self, deed, *things):
        before = told(things)
        answer = deed(*things)
        self.assertEqual(told(things), before, "what was handed in was changed")
        again = deed(*things)
        marks = [id(found) for found in lists_in(answer) + lists_in(again)]
        self.assertEqual(len(set(marks)), len(marks), "two told lists are one and the same")
        handed = [id(found) for found in lists_in(things)]
        self.assertEqual(set(marks) & set(handed), set(), "a list that was handed in is told")
        kept = told(answer)
        self.assertEqual(told(again), kept, "the same question was told otherwise")
        spoil(again)
        self.assertEqual(told(answer), kept, "changing one answer changed another")
        self.assertEqual(told(things), before, "changing an answer changed what was handed in")
        self.assertEqual(told(deed(*things)), kept, "changing an answer changed a later one")
        swapped = [as_tuples(thing) for thing in things]
        self.assertEqual(told(deed(*swapped)), kept, "tuples in lists' places were told otherwise")
        return answer

    def truth(self, deed, *things):
        """Asks whether something is so, of a thing of any kind."""
        before = told(things)
        answer = deed(*things)
        self.assertIs(type(answer), bool, things)
        self.assertIs(deed(*things), answer, things)
        self.assertEqual(told(things), before, "what was handed in was changed")
        return answer

    def play(self, web, row, steps, hues, words):
        """Plays steps of these words and of hues below hues; tells the hueing that they lead to."""
        self.assertIs(type(steps), list)
        now = list(row)
        for step in steps:
            self.assertIs(type(step), tuple)
            self.assertIn(step[0], words)
            now = behind(web, now, step)
            self.assertIsNotNone(now, (web, row, steps))
            self.assertTrue(is_good(web, now))
            named = step[2:] if step[0] in ("hue", "row") else ()
            self.assertTrue(all(hue in range(hues) for hue in named + tuple(now) if hue is not None))
        return now

    def unsided(self, deed, web, *things):
        """Asks what is refused of a web without two sides, and looks at the ring."""
        rings = [self.refused(NotTwoSides, deed, web, *things).ring for turn in range(3)]
        for ring in rings:
            self.assertIs(type(ring), list)
            self.assertTrue(shows_sides(web, ("ring", ring)))
            self.assertEqual(ring, two_sides(web)[1])
            spoil(ring)

    def refused(self, kind, deed, *things):
        for handed in (things, [as_tuples(thing) for thing in things]):
            before = told(handed)
            with self.assertRaises(HueError) as caught:
                deed(*handed)
            self.assertIs(type(caught.exception), kind)
            self.assertEqual(told(handed), before, "a refusal changed something")
        return caught.exception
