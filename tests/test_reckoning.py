"""Promise [11], and the interface of ringfigures.reckoning."""

import inspect
import time
import unittest
from fractions import Fraction
from math import gcd

from ringfigures.errors import NoBase, NoNumber, NoWriting, TooLong
from ringfigures.reckoning import added, times
from ringfigures.writing import is_plain, written

from oracle import LIMIT, SOME_WRITINGS, exact_worth, plain_by_words, small_writings, spread_figures

GOOD_TIME = 10
MOST_TIMES = 10 ** 6
FRACTIONS = [(0, 1), (1, 1), (1, 2), (2, 3), (5, 6), (1, 7), (22, 7), (3, 8), (7, 12), (1, 36), (999, 40), (10, 11)]


class ReckoningCase(unittest.TestCase):
    def assert_result(self, base, told, value):
        self.assertTrue(plain_by_words(base, told), (base, told))
        self.assertEqual(exact_worth(base, told), value, (base, told))

    def reckoned(self, base, value, ask):
        # The result where the document tells one, and else its refusal.
        if value.denominator > 2000 or value >= LIMIT + 1:
            with self.assertRaises(TooLong):
                ask()
        else:
            self.assert_result(base, ask(), value)


class InterfaceTest(unittest.TestCase):
    def test_names_and_arguments(self):
        self.assertEqual(list(inspect.signature(added).parameters), ["base", "one", "other"])
        self.assertEqual(list(inspect.signature(times).parameters), ["base", "writing", "number"])
        self.assertEqual(added(base=10, one=(0, [], [3]), other=(0, [1], [6])), (0, [5], []))
        self.assertEqual(times(base=10, writing=(0, [], [3]), number=2), (0, [], [6]))

    def test_kinds(self):
        for told in (
            added(10, (0, [], []), (0, [], [])),
            added(10, (0, [5], []), (0, [], [3])),
            times(10, (0, [1], [6]), 1),
            times(10, (0, [1], [6]), 0),
        ):
            self.assertIs(type(told), tuple)
            self.assertEqual([type(part) for part in told], [int, list, list])
            for figure in told[1] + told[2]:
                self.assertIs(type(figure), int)


class AddedTest(ReckoningCase):
    def told(self, base, one, other, answer):
        self.assertEqual(added(base, one, other), answer, (base, one, other))
        self.assertEqual(added(base, other, one), answer, (base, other, one))

    def test_sums_told_by_hand(self):
        self.told(10, (0, [], []), (0, [], []), (0, [], []))
        self.told(10, (2, [5], []), (1, [2, 5], []), (3, [7, 5], []))
        self.told(10, (0, [], [3]), (0, [], [3]), (0, [], [6]))
        self.told(10, (0, [], [3]), (0, [1], [6]), (0, [5], []))
        self.told(10, (0, [], [1, 4, 2, 8, 5, 7]), (0, [], [3]), (0, [], [4, 7, 6, 1, 9, 0]))
        self.told(2, (0, [], [0, 1]), (0, [1], []), (0, [1], [1, 0]))
        self.told(36, (0, [35], []), (0, [0, 35], []), (0, [35, 35], []))

    def test_sums_that_carry_into_the_whole_number(self):
        self.told(10, (0, [5], []), (0, [5], []), (1, [], []))
        self.told(10, (0, [9, 9], []), (0, [0, 1], []), (1, [], []))
        self.told(10, (1, [7, 5], []), (2, [7, 5], []), (4, [5], []))
        self.told(10, (0, [], [3]), (0, [], [6]), (1, [], []))
        self.told(10, (4, [], [6]), (5, [], [6]), (10, [], [3]))
        self.told(2, (0, [], [0, 1]), (0, [], [1, 0]), (1, [], []))
        self.told(36, (9, [35], []), (0, [1], []), (10, [], []))

    def test_writings_that_are_not_plain(self):
        self.told(10, (0, [], [9]), (0, [], []), (1, [], []))
        self.told(10, (0, [4], [9]), (0, [4], [9, 9]), (1, [], []))
        self.told(10, (0, [3, 3], [3, 3]), (0, [], [3]), (0, [], [6]))
        self.told(10, (0, [1, 0, 0], []), (0, [2], [0]), (0, [3], []))
        self.told(10, (7, [], [0, 0]), (1, [0], []), (8, [], []))
        self.told(2, (0, [1], [1]), (0, [0, 1], [1]), (1, [1], []))

    def test_sums_of_fractions(self):
        for base in (2, 3, 10, 12, 36):
            for one in FRACTIONS:
                for other in FRACTIONS:
                    value = Fraction(*one) + Fraction(*other)
                    told = added(base, written(base, *one), written(base, *other))
                    self.assert_result(base, told, value)
                    self.assertIs(is_plain(base, told), True)
                    self.assertEqual(told, written(base, value.numerator, value.denominator))

    def test_all_small_writings(self):
        for base, most_ahead, most_ring in ((2, 2, 2), (3, 1, 1), (10, 0, 1), (10, 1, 0)):
            writings = list(small_writings(base, (0, 3), most_ahead, most_ring))
            for one in writings:
                for other in writings:
                    value = exact_worth(base, one) + exact_worth(base, other)
                    self.reckoned(base, value, lambda: added(base, one, other))

    def test_some_writings(self):
        for base, one in SOME_WRITINGS:
            for other_base, other in SOME_WRITINGS:
                if base == other_base:
                    value = exact_worth(base, one) + exact_worth(base, other)
                    self.reckoned(base, value, lambda: added(base, one, other))

    def test_one_writing_handed_in_twice(self):
        one = (1, [6], [6])
        self.assertEqual(added(10, one, one), (3, [], [3]))


class TimesTest(ReckoningCase):
    def told(self, base, writing, number, answer):
        self.assertEqual(times(base, writing, number), answer, (base, writing, number))

    def test_multiples_told_by_hand(self):
        self.told(10, (0, [], [3]), 2, (0, [], [6]))
        self.told(10, (0, [], [3]), 3, (1, [], []))
        self.told(10, (0, [], [1, 4, 2, 8, 5, 7]), 10, (1, [], [4, 2, 8, 5, 7, 1]))
        self.told(10, (0, [1], [6]), 3, (0, [5], []))
        self.told(10, (3, [2, 5], []), 5, (16, [2, 5], []))
        self.told(2, (0, [], [0, 1]), 2, (0, [], [1, 0]))
        self.told(36, (0, [35], []), 36, (35, [], []))

    def test_writings_that_are_not_plain(self):
        self.told(10, (0, [], [9]), 7, (7, [], []))
        self.told(10, (0, [4], [9]), 3, (1, [5], []))
        self.told(10, (0, [3, 3], [3, 3]), 1, (0, [], [3]))
        self.told(10, (2, [5, 0], [0]), 1, (2, [5], []))

    def test_nought_one_and_the_greatest_number(self):
        for base, writing in SOME_WRITINGS:
            self.told(base, writing, 0, (0, [], []))
            self.reckoned(base, exact_worth(base, writing), lambda: times(base, writing, 1))
            value = exact_worth(base, writing) * MOST_TIMES
            self.reckoned(base, value, lambda: times(base, writing, MOST_TIMES))
        self.told(10, (1, [], []), MOST_TIMES, (MOST_TIMES, [], []))
        self.told(10, (0, [], [3]), MOST_TIMES, (333333, [], [3]))
        self.told(10, (0, [0, 0, 0, 0, 0, 1], []), MOST_TIMES, (1, [], []))
        self.told(2, (LIMIT, [1] * 4000, [0, 1]), 0, (0, [], []))

    def test_other_numbers_are_refused(self):
        for number in (-1, -2, -MOST_TIMES, MOST_TIMES + 1, MOST_TIMES + 2, 10 ** 12, 10 ** 5000, -10 ** 5000):
            for base, writing in SOME_WRITINGS:
                with self.assertRaises(NoNumber):
                    times(base, writing, number)

    def test_multiples_of_fractions(self):
        for base in (2, 3, 10, 12, 36):
            for top, bottom in FRACTIONS:
                for number in (0, 1, 2, 3, 4, 6, 7, 12, 36, 40, 97, 1000, 999999, MOST_TIMES):
                    value = Fraction(top, bottom) * number
                    told = times(base, written(base, top, bottom), number)
                    self.assert_result(base, told, value)
                    self.assertIs(is_plain(base, told), True)

    def test_all_small_writings(self):
        for base, most_ahead, most_ring in ((2, 3, 3), (3, 2, 2), (10, 1, 1)):
            for writing in small_writings(base, (0, 5), most_ahead, most_ring):
                for number in (1, 2, 7, 90):
                    value = exact_worth(base, writing) * number
                    self.reckoned(base, value, lambda: times(base, writing, number))

    def test_times_is_added_again_and_again(self):
        for base, top, bottom in ((10, 1, 7), (2, 5, 12), (36, 35, 37)):
            writing = written(base, top, bottom)
            total = (0, [], [])
            for number in range(20):
                self.told(base, writing, number, total)
                total = added(base, total, writing)


class TooLongTest(ReckoningCase):
    def added_is_too_long(self, base, one, other):
        for first, second in ((one, other), (other, one)):
            with self.assertRaises(TooLong):
                added(base, first, second)

    def times_is_too_long(self, base, writing, number):
        with self.assertRaises(TooLong):
            times(base, writing, number)

    def test_the_edge_of_the_whole_number_of_a_sum(self):
        for base in (2, 10, 36):
            half = (LIMIT // 2, [], [])
            self.assertEqual(added(base, half, half), (LIMIT, [], []))
            self.assertEqual(added(base, (LIMIT - 1, [], [base - 1]), (0, [], [])), (LIMIT, [], []))
            self.assertEqual(added(base, (LIMIT, [], []), (0, [1], [])), (LIMIT, [1], []))
            self.assertEqual(added(base, (LIMIT, [], []), written(base, 1999, 2000))[0], LIMIT)
            self.added_is_too_long(base, half, (LIMIT // 2 + 1, [], []))
            self.added_is_too_long(base, (LIMIT, [], []), (1, [], []))
            self.added_is_too_long(base, (LIMIT, [], []), (LIMIT, [], []))
            self.added_is_too_long(base, (LIMIT, [], []), (0, [], [base - 1]))
            self.added_is_too_long(base, (LIMIT, [], [base - 1]), (0, [], []))
            self.added_is_too_long(base, (LIMIT, [1], []), (0, [base - 1], []))

    def test_the_edge_of_the_whole_number_of_a_multiple(self):
        for base in (2, 10, 36):
            self.assertEqual(times(base, (LIMIT // 2, [], []), 2), (LIMIT, [], []))
            self.assertEqual(times(base, (MOST_TIMES, [], []), MOST_TIMES), (LIMIT, [], []))
            self.assertEqual(times(base, (LIMIT, [1], []), 1), (LIMIT, [1], []))
            self.assertEqual(times(base, (LIMIT - 1, [], [base - 1]), 1), (LIMIT, [], []))
            self.times_is_too_long(base, (LIMIT // 2 + 1, [], []), 2)
            self.times_is_too_long(base, (MOST_TIMES + 1, [], []), MOST_TIMES)
            self.times_is_too_long(base, (LIMIT, [], [base - 1]), 1)
            self.times_is_too_long(base, (LIMIT, [], []), MOST_TIMES)
        self.assertEqual(times(10, (LIMIT // 2, [4, 5], []), 2), (LIMIT, [9], []))
        self.times_is_too_long(10, (LIMIT // 2, [5], []), 2)

    def test_the_edge_of_the_bottom_of_a_sum(self):
        for base in (2, 3, 10, 36):
            for one, other in ((16, 125), (1, 2000), (1000, 2000), (3, 666), (37, 54), (1, 1999), (45, 44)):
                value = Fraction(1, one) + Fraction(1, other)
                self.assertLessEqual(value.denominator, 2000)
                told = added(base, written(base, 1, one), written(base, 1, other))
                self.assert_result(base, told, value)
            for one, other in ((3, 667), (29, 69), (2000, 3), (1999, 2), (1999, 1997), (47, 43)):
                self.assertGreater((Fraction(1, one) + Fraction(1, other)).denominator, 2000)
                self.added_is_too_long(base, written(base, 1, one), written(base, 1, other))
        self.assertEqual((Fraction(1, 16) + Fraction(1, 125)).denominator, 2000)
        self.assertEqual((Fraction(1, 3) + Fraction(1, 667)).denominator, 2001)

    def test_the_edge_of_the_bottom_of_a_multiple(self):
        self.assertEqual(times(10, (0, [0, 0, 0, 0, 5], []), 10), (0, [0, 0, 0, 5], []))
        self.assertEqual(times(10, (0, [0, 0, 0, 5], []), 1), (0, [0, 0, 0, 5], []))
        self.times_is_too_long(10, (0, [0, 0, 0, 0, 5], []), 1)
        self.times_is_too_long(10, (0, [0, 0, 0, 0, 5], []), 3)
        self.times_is_too_long(2, (0, [0] * 10 + [1], []), 1)
        self.assertEqual(times(2, (0, [0] * 10 + [1], []), 2), (0, [0] * 9 + [1], []))
        ring = self.ring_of_one_by(10, 2001)
        self.times_is_too_long(10, (0, [], ring), 1)
        self.times_is_too_long(10, (0, [], ring), 2)
        self.times_is_too_long(10, (0, [], ring), MOST_TIMES)
        self.assertEqual(times(10, (0, [], ring), 3), written(10, 1, 667))
        self.assertEqual(times(10, (0, [], ring), 2001), (1, [], []))

    def ring_of_one_by(self, base, bottom):
        self.assertEqual(gcd(base, bottom), 1)
        figures, rest = [], 1
        while not figures or rest != 1:
            figures.append(rest * base // bottom)
            rest = rest * base % bottom
        return figures

    def test_every_bottom_round_the_edge(self):
        for bottom in range(1991, 2012):
            if gcd(10, bottom) == 1:
                one = (6, [], self.ring_of_one_by(10, bottom))
                self.reckoned(10, 6 + Fraction(1, bottom), lambda: times(10, one, 1))
                self.reckoned(10, 12 + Fraction(2, bottom), lambda: added(10, one, one))
                self.reckoned(10, 11 + Fraction(1, bottom), lambda: added(10, one, (5, [], [])))

    def test_handed_in_bottoms_above_the_edge_are_no_hindrance(self):
        self.assertEqual(added(10, (0, [0] * 9 + [1], []), (0, [9] * 10, [])), (1, [], []))
        self.assertEqual(added(10, (0, [0] * 3999 + [1], []), (0, [9] * 4000, [])), (1, [], []))
        ring = spread_figures(10, 3999, 8)
        self.assertEqual(added(10, (2, [], ring), (3, [], [9 - figure for figure in ring])), (6, [], []))
        self.assertEqual(times(10, (0, [0, 0, 0, 0, 0, 1], []), 500000), (0, [5], []))

    def test_great_whole_numbers_with_great_bottoms(self):
        for base in (2, 10, 36):
            for top, bottom in ((1, 1999), (1998, 1999), (7, 2000), (1, 1536)):
                writing = (LIMIT,) + written(base, top, bottom)[1:]
                self.assertEqual(added(base, writing, (0, [], [])), writing)
                self.assertEqual(added(base, (0, [], []), writing), writing)
                self.assertEqual(times(base, writing, 1), writing)

    def test_long_writings_in_good_time(self):
        for base in (2, 10, 36):
            one = (3, spread_figures(base, 4000, 1), spread_figures(base, 4000, 2))
            other = (4, spread_figures(base, 4000, 3), spread_figures(base, 3999, 4))
            start = time.perf_counter()
            self.added_is_too_long(base, one, other)
            self.times_is_too_long(base, one, 999983)
            self.assertLess(time.perf_counter() - start, GOOD_TIME)


class OrderTest(unittest.TestCase):
    WRONG = [(-1, [], []), (LIMIT + 1, [], []), (0, [10], []), (0, [], [-1]), (0, [0] * 4001, []), (0, [], [0] * 4001)]
    GOOD = [(0, [], []), (LIMIT, [], []), (0, [0, 0, 0, 0, 1], [])]

    def test_no_base_goes_first(self):
        for base in (1, 37, -10):
            for one in self.WRONG + self.GOOD:
                for other in self.WRONG + self.GOOD:
                    with self.assertRaises(NoBase):
                        added(base, one, other)
                for number in (-1, 1, MOST_TIMES, MOST_TIMES + 1):
                    with self.assertRaises(NoBase):
                        times(base, one, number)

    def test_no_writing_goes_ahead_of_no_number_and_too_long(self):
        for wrong in self.WRONG:
            for number in (-1, 0, 1, MOST_TIMES, MOST_TIMES + 1):
                with self.assertRaises(NoWriting):
                    times(10, wrong, number)
            for good in self.WRONG + self.GOOD:
                with self.assertRaises(NoWriting):
                    added(10, wrong, good)
                with self.assertRaises(NoWriting):
                    added(10, good, wrong)

    def test_no_number_goes_ahead_of_too_long(self):
        for number in (MOST_TIMES + 1, -1):
            for writing in ((LIMIT, [], []), (LIMIT, [], [9]), (0, [0, 0, 0, 0, 0, 0, 0, 1], [])):
                with self.assertRaises(NoNumber):
                    times(10, writing, number)


if __name__ == "__main__":
    unittest.main()
