"""Promises [7] and [8], and the interface of lengths and figure_at."""

import inspect
import time
import unittest

from ringfigures.lengths import figure_at, lengths
from ringfigures.writing import written

from oracle import LIMIT, figure_by_division, lengths_by_words, tops_in_lowest_terms

GOOD_TIME = 5
GREAT_PLACES = [10 ** 6, 10 ** 12 + 1, 2 ** 64, 3 ** 50, 10 ** 30 + 7, 2 ** 132, 10 ** 40 - 2, 10 ** 40 - 1]


class InterfaceTest(unittest.TestCase):
    def test_names_and_arguments(self):
        self.assertEqual(list(inspect.signature(lengths).parameters), ["base", "bottom"])
        self.assertEqual(list(inspect.signature(figure_at).parameters), ["base", "top", "bottom", "place"])
        self.assertEqual(lengths(base=10, bottom=12), (2, 1))
        self.assertEqual(figure_at(base=10, top=1, bottom=7, place=2), 2)

    def test_kinds(self):
        for base, bottom in ((10, 1), (10, 7), (10, 8), (10, 12), (2, 2000), (36, 1999)):
            told = lengths(base, bottom)
            self.assertIs(type(told), tuple)
            self.assertEqual([type(part) for part in told], [int, int])
            for place in (0, 1, 50, 10 ** 40 - 1):
                self.assertIs(type(figure_at(base, 1, bottom, place)), int)


class LengthsTest(unittest.TestCase):
    def told(self, base, bottom, ahead, ring):
        self.assertEqual(lengths(base, bottom), (ahead, ring), (base, bottom))

    def test_the_bottom_one(self):
        for base in range(2, 37):
            self.told(base, 1, 0, 0)

    def test_nothing_in_common_with_the_base(self):
        self.told(10, 3, 0, 1)
        self.told(10, 7, 0, 6)
        self.told(10, 9, 0, 1)
        self.told(10, 11, 0, 2)
        self.told(10, 37, 0, 3)
        self.told(10, 99, 0, 2)
        self.told(10, 1979, 0, 1978)
        self.told(2, 3, 0, 2)
        self.told(2, 1023, 0, 10)
        self.told(3, 2, 0, 1)
        self.told(36, 5, 0, 1)
        self.told(36, 35, 0, 1)
        self.told(36, 37, 0, 2)

    def test_all_in_common_with_the_base(self):
        self.told(10, 2, 1, 0)
        self.told(10, 5, 1, 0)
        self.told(10, 10, 1, 0)
        self.told(10, 8, 3, 0)
        self.told(10, 20, 2, 0)
        self.told(10, 2000, 4, 0)
        self.told(10, 1024, 10, 0)
        self.told(2, 1024, 10, 0)
        self.told(4, 2, 1, 0)
        self.told(4, 8, 2, 0)
        self.told(12, 8, 2, 0)
        self.told(12, 9, 2, 0)
        self.told(36, 36, 1, 0)
        self.told(36, 1296, 2, 0)
        self.told(36, 27, 2, 0)
        self.told(36, 1024, 5, 0)

    def test_partly_in_common_with_the_base(self):
        self.told(10, 6, 1, 1)
        self.told(10, 12, 2, 1)
        self.told(10, 14, 1, 6)
        self.told(10, 28, 2, 6)
        self.told(10, 1750, 3, 6)
        self.told(2, 10, 1, 4)
        self.told(2, 2000, 4, 100)
        self.told(12, 40, 2, 4)
        self.told(36, 40, 2, 1)
        self.told(36, 74, 1, 2)

    def test_every_bottom_has_the_lengths_of_one_by_it(self):
        for base in (2, 3, 6, 10, 12, 30, 35, 36):
            for bottom in range(1, 2001):
                whole, ahead, ring = written(base, 1, bottom)
                self.told(base, bottom, len(ahead), len(ring))

    def test_every_base_against_the_words_of_the_document(self):
        for base in range(2, 37):
            for bottom in list(range(1, 130)) + [512, 720, 1000, 1024, 1296, 1458, 1536, 1728, 1920, 1999, 2000]:
                self.told(base, bottom, *lengths_by_words(base, bottom))

    def test_all_fractions_in_lowest_terms_below_one(self):
        for base in (2, 6, 10, 36):
            for bottom in list(range(1, 61)) + [96, 121, 210, 343, 360, 500]:
                told = lengths(base, bottom)
                tops = tops_in_lowest_terms(bottom)
                self.assertGreater(len(tops), 0)
                for top in tops:
                    whole, ahead, ring = written(base, top, bottom)
                    self.assertEqual(told, (len(ahead), len(ring)), (base, top, bottom))


class FigureAtTest(unittest.TestCase):
    def told(self, base, top, bottom, place, figure):
        self.assertEqual(figure_at(base, top, bottom, place), figure, (base, top, bottom, place))

    def test_figures_told_by_hand(self):
        for place, figure in enumerate([1, 4, 2, 8, 5, 7, 1, 4]):
            self.told(10, 1, 7, place, figure)
        for place, figure in enumerate([0, 8, 3, 3, 3]):
            self.told(10, 1, 12, place, figure)
        for place, figure in enumerate([1, 2, 5, 0, 0]):
            self.told(10, 1, 8, place, figure)
        self.told(36, 35, 36, 0, 35)
        self.told(36, 35, 36, 1, 0)
        self.told(2, 1, 3, 0, 0)
        self.told(2, 1, 3, 1, 1)

    def test_places_ahead_in_the_ring_and_round_it(self):
        for base in (2, 3, 10, 12, 36):
            for bottom in list(range(1, 31)) + [96, 97, 210, 640, 1750, 2000]:
                for top in (0, 1, bottom - 1, bottom, 3 * bottom + 2, LIMIT - 1, LIMIT):
                    whole, ahead, ring = written(base, top, bottom)
                    figures = ahead + (ring * 3 if ring else [0, 0, 0])
                    told = [figure_at(base, top, bottom, place) for place in range(len(figures))]
                    self.assertEqual(told, figures, (base, top, bottom))

    def test_places_many_times_round_the_ring(self):
        for base in (2, 7, 10, 36):
            for top, bottom in ((1, 3), (22, 7), (1, 12), (5, 96), (1, 1979), (1999, 2000), (LIMIT, 1999), (1, 1750)):
                whole, ahead, ring = written(base, top, bottom)
                for place in GREAT_PLACES:
                    figure = ring[(place - len(ahead)) % len(ring)] if ring else 0
                    self.told(base, top, bottom, place, figure)

    def test_each_place_of_a_ring_far_out(self):
        far = 6 * 10 ** 38
        for place, figure in enumerate([1, 4, 2, 8, 5, 7]):
            self.told(10, 1, 7, far + place, figure)
            self.told(10, 1, 7, 10 ** 40 - 10 ** 40 % 6 - 6 + place, figure)

    def test_nought_behind_the_last_figure_of_no_ring(self):
        for base, top, bottom in ((10, 0, 1), (10, 0, 7), (10, 5, 1), (10, 1, 8), (2, 1023, 1024), (36, 1295, 1296)):
            count = len(written(base, top, bottom)[1])
            for place in [count, count + 1, count + 2, count + 1000] + GREAT_PLACES:
                self.told(base, top, bottom, place, 0)

    def test_great_places_by_division(self):
        for base in range(2, 37):
            for top, bottom in ((1, 1999), (1, 1993), (LIMIT, 1763), (7, 1800), (13, 1331)):
                for place in GREAT_PLACES:
                    self.told(base, top, bottom, place, figure_by_division(base, top, bottom, place))

    def test_places_from_ten_to_the_fortieth_on_are_not_refused(self):
        for place in (10 ** 40, 10 ** 40 + 1, 10 ** 41):
            self.told(10, 1, 7, place, figure_by_division(10, 1, 7, place))

    def test_great_places_are_answered_in_good_time(self):
        start = time.perf_counter()
        for bottom in range(1, 2001):
            figure_at(10, LIMIT, bottom, 10 ** 40 - 1)
        self.assertLess(time.perf_counter() - start, GOOD_TIME)


if __name__ == "__main__":
    unittest.main()
