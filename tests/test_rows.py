"""[6]: rows of two hues."""

import itertools
import unittest

from huedties.errors import NoPlace, NoRow
from huedties.rows import exchanged, row_from, rows_of

from samples import (ALIKE, APART, FIVE, MINGLED, NOTHING, ONE_TIE, PATH, PETERSEN, SQUARE, STAR, Asking, complete,
                     greater_webs, hueing_of, is_good, meet, narrow_hueing, small_webs, some_hueings, thick_ring, walk)

LONG = (6, ((2, 3), (0, 1), (4, 5), (1, 2), (3, 4)))


def groups(web, ties):
    """The least lists of these ties that meet none out of them."""
    lists = []
    for tie in ties:
        touched = [row for row in lists if any(meet(web, tie, k) for k in row)]
        lists = [row for row in lists if row not in touched] + [sorted(sum(touched, [tie]))]
    return sorted(lists)


def is_round(web, ties):
    ends = [place for tie in ties for place in web[1][tie]]
    return all(ends.count(place) == 2 for place in ends)


class RowFrom(Asking):

    def test_a_path(self):
        hueing = [0, 0, 0, 1, 1]
        self.assertEqual(self.ask(row_from, LONG, hueing, 0, 0, 1), [1, 3, 0, 4, 2])
        self.assertEqual(self.ask(row_from, LONG, hueing, 5, 0, 1), [2, 4, 0, 3, 1])
        self.assertEqual(self.ask(row_from, LONG, hueing, 0, 0, 7), [1])
        self.assertEqual(self.ask(row_from, LONG, hueing, 2, 1, 7), [3])

    def test_it_ends_where_there_is_none(self):
        self.assertEqual(self.ask(row_from, LONG, [0, 0, 0, 1, None], 0, 0, 1), [1, 3, 0])
        self.assertEqual(self.ask(row_from, LONG, [0, 0, 0, 2, 1], 0, 0, 1), [1])
        self.assertEqual(self.ask(row_from, PATH, [0, 1, 0], 3, 0, 1), [2, 1, 0])

    def test_no_tie_of_hue_one(self):
        self.assertEqual(self.ask(row_from, LONG, [0, 0, 0, 1, 1], 0, 2, 1), [])
        self.assertEqual(self.ask(row_from, APART, [], 2, 0, 1), [])
        self.assertEqual(self.ask(row_from, ONE_TIE, [None], 0, 0, 1), [])

    def test_from_the_place_alone(self):
        # Another row of the same hues stands apart.
        web = (6, ((0, 1), (1, 2), (3, 4), (4, 5)))
        self.assertEqual(self.ask(row_from, web, [0, 1, 0, 1], 3, 0, 1), [2, 3])
        self.assertEqual(self.ask(row_from, web, [0, 1, 0, 1], 2, 1, 0), [1, 0])

    def test_refusals(self):
        hueing = [0, 0, 0, 1, 1]
        for place in (-1, 6, 10 ** 30):
            self.refused(NoPlace, row_from, LONG, hueing, place, 0, 1)
            self.refused(NoPlace, row_from, LONG, hueing, place, 0, 0)
        self.refused(NoRow, row_from, LONG, hueing, 0, 0, 0)
        self.refused(NoRow, row_from, LONG, hueing, 0, 5, 5)
        self.refused(NoRow, row_from, LONG, hueing, 0, 1, 0)
        self.refused(NoRow, row_from, LONG, hueing, 2, 0, 1)
        self.refused(NoRow, row_from, LONG, hueing, 0, 3, 0)
        self.refused(NoRow, row_from, ALIKE, [0, 1, 2], 0, 0, 1)
        self.refused(NoPlace, row_from, NOTHING, [], 0, 0, 1)

    def test_each_hueing_of_small_webs(self):
        for web in small_webs(4, 3):
            for hueing in some_hueings(web, 2):
                for place, one, other in itertools.product(range(web[0]), range(2), range(3)):
                    ties = walk(web, hueing, place, one, other)
                    if ties is not None:
                        self.assertEqual(row_from(web, hueing, place, one, other), ties)
                    else:
                        with self.assertRaises(NoRow):
                            row_from(web, hueing, place, one, other)

    def test_greater_webs(self):
        for web in greater_webs():
            hueing = hueing_of(web, 4, gaps=1)
            for place in range(web[0]):
                ties = walk(web, hueing, place, 0, 1)
                if ties is not None:
                    self.assertEqual(self.ask(row_from, web, hueing, place, 0, 1), ties)


class RowsOf(Asking):

    def test_open_ones(self):
        self.assertEqual(self.ask(rows_of, LONG, [0, 0, 0, 1, 1], 0, 1), [("open", [0, 1, 2, 3, 4])])
        self.assertEqual(self.ask(rows_of, LONG, [0, 0, 0, 1, 2], 0, 1), [("open", [0, 1, 3]), ("open", [2])])
        self.assertEqual(self.ask(rows_of, LONG, [0, 0, 0, 1, 2], 1, 2), [("open", [3]), ("open", [4])])
        self.assertEqual(self.ask(rows_of, STAR, [0, 1, 2, 3], 3, 0), [("open", [0, 3])])

    def test_rings(self):
        self.assertEqual(self.ask(rows_of, SQUARE, [0, 1, 0, 1], 1, 0), [("ring", [0, 1, 2, 3])])
        self.assertEqual(self.ask(rows_of, FIVE, [0, 1, 0, 1, 2], 0, 1), [("open", [0, 1, 2, 3])])
        self.assertEqual(self.ask(rows_of, FIVE, [0, 1, 0, 1, 2], 0, 2), [("open", [0, 4]), ("open", [2])])

    def test_alike_ties_are_a_ring_of_two(self):
        self.assertEqual(self.ask(rows_of, ALIKE, [0, 1, 2], 0, 1), [("ring", [0, 1])])
        self.assertEqual(self.ask(rows_of, ALIKE, [0, 1, 2], 2, 0), [("ring", [0, 2])])
        self.assertEqual(self.ask(rows_of, ALIKE, [0, None, 2], 0, 1), [("open", [0])])

    def test_by_their_first_ties(self):
        # The part of the least place has the later ties.
        web = (6, ((4, 5), (2, 3), (0, 1), (2, 3)))
        self.assertEqual(self.ask(rows_of, web, [0, 0, 1, 1], 0, 1), [("open", [0]), ("ring", [1, 3]), ("open", [2])])

    def test_none_of_them(self):
        self.assertEqual(self.ask(rows_of, PATH, [None, None, None], 0, 1), [])
        self.assertEqual(self.ask(rows_of, PATH, [0, 1, 0], 2, 3), [])
        self.assertEqual(self.ask(rows_of, NOTHING, [], 0, 1), [])

    def test_refusals(self):
        self.refused(NoRow, rows_of, PATH, [0, 1, 0], 0, 0)
        self.refused(NoRow, rows_of, NOTHING, [], 3, 3)

    def check(self, web, hueing, one, other):
        told = rows_of(web, hueing, one, other)
        ties = [tie for tie, hue in enumerate(hueing) if hue is not None and hue in (one, other)]
        self.assertEqual(told, [("ring" if is_round(web, row) else "open", row) for row in groups(web, ties)])

    def test_each_hueing_of_small_webs(self):
        for web in small_webs(4, 3):
            for hueing in some_hueings(web, 2):
                self.check(web, hueing, 0, 1)
                self.check(web, hueing, 1, 5)

    def test_greater_webs(self):
        for web in list(greater_webs()) + [PETERSEN, MINGLED, complete(6), thick_ring(6, 4)]:
            hueing = hueing_of(web, 9, gaps=1)
            for one, other in ((0, 1), (2, 0), (3, 1)):
                self.check(web, hueing, one, other)
                self.ask(rows_of, web, hueing, one, other)


class Exchanged(Asking):

    def test_ordinary(self):
        hueing = [0, 0, 0, 1, 1]
        self.assertEqual(self.ask(exchanged, LONG, hueing, [1, 3, 0, 4, 2], 0, 1), [1, 1, 1, 0, 0])
        self.assertEqual(self.ask(exchanged, LONG, hueing, [0, 1, 2, 3, 4], 1, 0), [1, 1, 1, 0, 0])
        self.assertEqual(self.ask(exchanged, LONG, hueing, [4], 1, 6), [0, 0, 0, 1, 6])
        self.assertEqual(self.ask(exchanged, LONG, [0, 0, 0, 1, None], [0, 3, 1], 0, 1), [1, 1, 0, 0, None])
        self.assertEqual(self.ask(exchanged, SQUARE, [0, 1, 0, 1], [0, 1, 2, 3], 0, 1), [1, 0, 1, 0])
        self.assertEqual(self.ask(exchanged, ALIKE, [0, 1, 2], [2, 0], 0, 2), [2, 1, 0])

    def test_no_ties(self):
        self.assertEqual(self.ask(exchanged, PATH, [0, None, 0], [], 0, 1), [0, None, 0])
        self.assertEqual(self.ask(exchanged, NOTHING, [], [], 0, 1), [])

    def test_refusals(self):
        self.refused(NoRow, exchanged, PATH, [0, 1, 0], [0], 0, 0)
        self.refused(NoRow, exchanged, PATH, [0, 1, 0], [], 4, 4)
        self.refused(NoRow, exchanged, PATH, [0, 1, 2], [2], 0, 1)
        self.refused(NoRow, exchanged, PATH, [0, 1, 2], [0, 1, 2], 0, 1)
        self.refused(NoRow, exchanged, PATH, [0, None, 0], [1], 0, 1)
        self.refused(NoRow, exchanged, PATH, [0, 1, 0], [0], 0, 1)
        self.refused(NoRow, exchanged, PATH, [0, 1, 0], [0, 1], 0, 1)
        self.refused(NoRow, exchanged, SQUARE, [0, 1, 0, 1], [0, 1, 2], 0, 1)
        for tie in (-1, 3, 10 ** 30):
            self.refused(NoRow, exchanged, PATH, [0, 1, 0], [tie], 0, 1)

    def test_each_row_of_small_webs(self):
        for web in small_webs(3, 3):
            for hueing in some_hueings(web, 2):
                for count in range(len(hueing) + 1):
                    for ties in itertools.combinations(range(len(hueing)), count):
                        new = [1 - hue if tie in ties and hue is not None else hue for tie, hue in enumerate(hueing)]
                        if None not in [hueing[tie] for tie in ties] and is_good(web, new):
                            self.assertEqual(exchanged(web, hueing, list(ties), 0, 1), new)
                        else:
                            with self.assertRaises(NoRow):
                                exchanged(web, hueing, list(ties), 0, 1)

    def test_whole_rows_of_greater_webs(self):
        for web in greater_webs():
            hueing = narrow_hueing(web, 5, 3)
            for word, ties in rows_of(web, hueing, 1, 4):
                new = [5 - hue if tie in ties else hue for tie, hue in enumerate(hueing)]
                self.assertEqual(self.ask(exchanged, web, hueing, ties, 1, 4), new)


if __name__ == "__main__":
    unittest.main()
