"""Promises [2] and [3]: what is taken, what is refused, and which refusal goes first."""

import unittest

from ringfigures.errors import NoBase, NoFraction, NoWriting, TooLong
from ringfigures.lengths import figure_at, folds, lengths
from ringfigures.notes import read, shown
from ringfigures.reckoning import added, times
from ringfigures.writing import is_plain, plain, worth, written

from calls import OF_WRITINGS, RECKONING_WITH_WRITINGS
from oracle import LIMIT

OF_FRACTIONS = [
    written,
    lambda base, top, bottom: figure_at(base, top, bottom, 0),
    lambda base, top, bottom: figure_at(base, top, bottom, 10 ** 40 - 1),
]
OF_BASES = [
    lambda base: lengths(base, 7),
    lambda base: lengths(base, 0),
    lambda base: lengths(base, 2001),
    lambda base: folds(base, []),
    lambda base: folds(base, [0, 1]),
    lambda base: folds(base, [-1, 99]),
    lambda base: folds(base, [0] * 4001),
    lambda base: read(base, "0"),
    lambda base: read(base, ""),
    lambda base: times(base, (0, [], []), -1),
    lambda base: times(base, (0, [], []), 10 ** 6 + 1),
    lambda base: times(base, (LIMIT, [], []), 10 ** 6),
    lambda base: added(base, (LIMIT, [], []), (LIMIT, [], [])),
    lambda base: added(base, (0, [], []), (-1, [], [])),
]
WRONG_BASES = [1, 37, 0, -1, -2, -10, -36, 38, 100, 10 ** 20, 10 ** 5000]


class BaseTest(unittest.TestCase):
    def test_the_least_and_the_greatest_base_are_taken(self):
        self.assertEqual(written(2, 1, 2), (0, [1], []))
        self.assertEqual(written(36, 35, 36), (0, [35], []))
        for base in (2, 36):
            self.assertEqual(worth(base, (0, [1], [])), (1, base))
            self.assertEqual(plain(base, (0, [1], [])), (0, [1], []))
            self.assertIs(is_plain(base, (0, [1], [])), True)
            self.assertEqual(lengths(base, base), (1, 0))
            self.assertEqual(figure_at(base, 1, base, 0), 1)
            self.assertIs(folds(base, [0, base - 1]), True)
            self.assertEqual(added(base, (0, [1], []), (1, [], [])), (1, [1], []))
            self.assertEqual(times(base, (0, [1], []), base), (1, [], []))
            self.assertEqual(shown(base, (base, [1], [])), "10.1")
            self.assertEqual(read(base, "10.1"), (base, [1], []))

    def test_every_base_between_is_taken(self):
        for base in range(2, 37):
            self.assertEqual(written(base, 1, base), (0, [1], []))
            self.assertEqual(lengths(base, base), (1, 0))
            self.assertEqual(figure_at(base, 1, base, 0), 1)
            self.assertIs(folds(base, [0, base - 1]), True)
            self.assertEqual(added(base, (0, [1], []), (1, [], [])), (1, [1], []))
            self.assertEqual(shown(base, read(base, "10.1")), "10.1")

    def test_other_bases_are_refused(self):
        for base in WRONG_BASES:
            for ask in OF_BASES:
                with self.assertRaises(NoBase):
                    ask(base)
            for ask in OF_FRACTIONS:
                with self.assertRaises(NoBase):
                    ask(base, 1, 2)
            for ask in OF_WRITINGS:
                with self.assertRaises(NoBase):
                    ask(base, (0, [], []))

    def test_no_base_goes_ahead_of_other_refusals(self):
        for base in WRONG_BASES:
            for top, bottom in ((-1, 1), (LIMIT + 1, 1), (1, 0), (1, 2001), (-1, 0)):
                for ask in OF_FRACTIONS:
                    with self.assertRaises(NoBase):
                        ask(base, top, bottom)
            for writing in ((-1, [], []), (LIMIT + 1, [], []), (0, [-1], []), (0, [], [99]), (0, [0] * 4001, [])):
                for ask in OF_WRITINGS:
                    with self.assertRaises(NoBase):
                        ask(base, writing)


class FractionTest(unittest.TestCase):
    def test_the_edges_are_taken(self):
        self.assertEqual(written(10, 0, 1), (0, [], []))
        self.assertEqual(written(10, 0, 2000), (0, [], []))
        self.assertEqual(written(10, LIMIT, 1), (LIMIT, [], []))
        self.assertEqual(written(10, LIMIT, 2000), (500000000, [], []))
        self.assertEqual(written(10, 1, 2000), (0, [0, 0, 0, 5], []))
        self.assertEqual(written(10, LIMIT, 3), (333333333333, [], [3]))

    def test_other_fractions_are_refused(self):
        wrong = [(-1, 1), (-LIMIT, 3), (LIMIT + 1, 1), (LIMIT + 1, 2000), (10 ** 30, 7), (10 ** 5000, 7)]
        wrong += [(1, 0), (0, 0), (1, -1), (1, -2000), (1, 2001), (2001, 2001), (0, 2001), (1, 10 ** 30)]
        wrong += [(-1, 0), (-1, -1), (LIMIT + 1, 2001)]
        for top, bottom in wrong:
            for base in (2, 10, 36):
                for ask in OF_FRACTIONS:
                    with self.assertRaises(NoFraction):
                        ask(base, top, bottom)

    def test_the_edges_are_taken_at_a_place(self):
        for top, bottom in ((0, 1), (0, 2000), (LIMIT, 1), (LIMIT, 2000)):
            self.assertEqual(figure_at(10, top, bottom, 0), 0)
        self.assertEqual(figure_at(10, 1, 2000, 3), 5)
        self.assertEqual(figure_at(10, LIMIT, 3, 0), 3)

    def test_the_edges_of_a_bottom_by_itself(self):
        for base in (2, 10, 36):
            self.assertEqual(lengths(base, 1), (0, 0))
            self.assertEqual(len(lengths(base, 2000)), 2)
            for bottom in (0, -1, -2, -2000, 2001, 2002, 4000, LIMIT, 10 ** 5000, -10 ** 5000):
                with self.assertRaises(NoFraction):
                    lengths(base, bottom)

    def test_worth_is_in_lowest_terms(self):
        self.assertEqual(worth(10, (0, [2, 5], [])), (1, 4))
        self.assertEqual(worth(10, (0, [], [3])), (1, 3))
        self.assertEqual(worth(12, (2, [6], [])), (5, 2))

    def test_nought_has_the_bottom_one(self):
        for base in (2, 10, 36):
            for writing in ((0, [], []), (0, [0], []), (0, [], [0]), (0, [0, 0], [0, 0, 0])):
                self.assertEqual(worth(base, writing), (0, 1))


class WritingTest(unittest.TestCase):
    def taken(self, base, writing):
        for ask in OF_WRITINGS:
            try:
                ask(base, writing)
            except TooLong:
                # Due to the result alone; the writing itself was taken.
                self.assertIn(ask, RECKONING_WITH_WRITINGS)

    def refused(self, base, writing):
        for ask in OF_WRITINGS:
            with self.assertRaises(NoWriting):
                ask(base, writing)

    def test_the_edges_of_the_whole_number(self):
        self.taken(10, (0, [], []))
        self.taken(10, (LIMIT, [], []))
        for whole in (-1, -LIMIT, LIMIT + 1, 10 ** 30, 10 ** 5000):
            self.refused(10, (whole, [], []))
            self.refused(10, (whole, [1], [2]))

    def test_the_edges_of_the_lists(self):
        for base in (2, 36):
            self.taken(base, (0, [1] * 4000, []))
            self.taken(base, (0, [], [0, 1] * 2000))
            self.taken(base, (LIMIT, [1] * 4000, [0, 1] * 2000))
            for figure in (0, 1):
                self.refused(base, (0, [figure] * 4001, []))
                self.refused(base, (0, [], [figure] * 4001))
                self.refused(base, (0, [figure] * 5000, [figure] * 5000))

    def test_figures_are_from_nought_to_below_the_base(self):
        for base in (2, 3, 10, 36):
            good = list(range(base))
            self.taken(base, (0, good, good))
            for wrong in (-1, -base, base, base + 1, 10 ** 20):
                for place in range(base):
                    spoilt = good[:place] + [wrong] + good[place + 1:]
                    self.refused(base, (0, spoilt, []))
                    self.refused(base, (0, spoilt, good))
                    self.refused(base, (0, [], spoilt))
                    self.refused(base, (0, good, spoilt))

    def test_a_wrong_figure_is_found_in_a_long_list(self):
        for place in (0, 1, 1999, 3998, 3999):
            for wrong in (-1, 10):
                figures = [0] * 4000
                figures[place] = wrong
                self.refused(10, (0, figures, []))
                self.refused(10, (0, [], figures))

    def test_what_plain_tells_beyond_the_limit_is_no_writing(self):
        told = plain(10, (LIMIT, [], [9]))
        self.assertEqual(told, (LIMIT + 1, [], []))
        self.refused(10, told)


class RingTest(unittest.TestCase):
    def refused(self, base, ring):
        with self.assertRaises(NoWriting):
            folds(base, ring)

    def test_every_list_that_can_be_a_ring_is_taken(self):
        for base in (2, 10, 36):
            for ring in ([], [0], [base - 1], list(range(base)), [0, 0], [base - 1] * 2, [0] * 4000, [1] * 3999):
                self.assertIs(type(folds(base, ring)), bool)

    def test_too_many_figures(self):
        for base in (2, 10, 36):
            for figure in (0, base - 1):
                for count in (4001, 4002, 5000):
                    self.refused(base, [figure] * count)
            self.refused(base, [0] * 2001 + [base - 1] * 2001)

    def test_figures_that_the_base_does_not_have(self):
        for base in (2, 10, 36):
            for wrong in (-1, -base, base, base + 1, 10 ** 20):
                self.refused(base, [wrong])
                for count in (2, 3, 6):
                    for place in range(count):
                        ring = [0] * count
                        ring[place] = wrong
                        self.refused(base, ring)

    def test_wrong_figures_that_come_to_the_greatest_one(self):
        for base in (2, 10, 36):
            self.refused(base, [-1, base])
            self.refused(base, [base, -1])
            self.refused(base, [0, base, base - 1, -1])

    def test_a_wrong_figure_behind_a_pair_that_does_not_fold(self):
        self.refused(10, [0, 0, 0, 10])
        self.refused(10, [0, 0, -1])
        self.refused(10, [0] * 3999 + [10])


if __name__ == "__main__":
    unittest.main()
