"""Promises [4], [5] and [6], and the interface of ringfigures.writing."""

import inspect
import time
import unittest
from fractions import Fraction

from ringfigures.writing import is_plain, plain, worth, written

from oracle import LIMIT, SOME_WRITINGS, exact_worth, plain_by_words, small_writings, spread_figures

GOOD_TIME = 10


def pair(fraction):
    return (fraction.numerator, fraction.denominator)


class InterfaceTest(unittest.TestCase):
    def test_names_and_arguments(self):
        for ask, names in (
            (written, ["base", "top", "bottom"]),
            (worth, ["base", "writing"]),
            (plain, ["base", "writing"]),
            (is_plain, ["base", "writing"]),
        ):
            self.assertEqual(list(inspect.signature(ask).parameters), names)

    def test_arguments_by_name(self):
        self.assertEqual(written(base=10, top=1, bottom=6), (0, [1], [6]))
        self.assertEqual(worth(base=10, writing=(0, [1], [6])), (1, 6))
        self.assertEqual(plain(base=10, writing=(0, [1, 6], [6])), (0, [1], [6]))
        self.assertIs(is_plain(base=10, writing=(0, [1], [6])), True)

    def assert_writing(self, told):
        self.assertIs(type(told), tuple)
        self.assertEqual([type(part) for part in told], [int, list, list])
        for figure in told[1] + told[2]:
            self.assertIs(type(figure), int)

    def test_kinds(self):
        for base, top, bottom in ((10, 0, 1), (10, 7, 1), (10, 1, 4), (10, 1, 6), (2, 5, 3)):
            self.assert_writing(written(base, top, bottom))
        for base, writing in SOME_WRITINGS:
            self.assert_writing(plain(base, writing))
            told = worth(base, writing)
            self.assertIs(type(told), tuple)
            self.assertEqual([type(part) for part in told], [int, int])
            self.assertIs(type(is_plain(base, writing)), bool)


class WorthTest(unittest.TestCase):
    def test_worths_told_by_hand(self):
        for base, writing, fraction in (
            (10, (5, [], []), (5, 1)),
            (10, (0, [5], []), (1, 2)),
            (10, (0, [0, 5], []), (1, 20)),
            (10, (3, [1, 4], []), (157, 50)),
            (10, (0, [], [3]), (1, 3)),
            (10, (2, [], [1, 4, 2, 8, 5, 7]), (15, 7)),
            (10, (0, [1], [6]), (1, 6)),
            (10, (0, [], [0]), (0, 1)),
            (10, (4, [2], [0, 0]), (21, 5)),
            (10, (0, [], [9]), (1, 1)),
            (10, (4, [2], [9, 9]), (43, 10)),
            (10, (4, [9], [9]), (5, 1)),
            (2, (0, [], [0, 1]), (1, 3)),
            (2, (0, [1], [1]), (1, 1)),
            (2, (1, [0, 1, 1], []), (11, 8)),
            (3, (0, [], [1]), (1, 2)),
            (36, (0, [35], []), (35, 36)),
            (36, (0, [], [1]), (1, 35)),
            (36, (0, [], [35]), (1, 1)),
            (36, (1, [18], [0]), (3, 2)),
            (36, (0, [0], [5]), (1, 252)),
            (10, (LIMIT, [], []), (LIMIT, 1)),
            (10, (LIMIT, [], [9]), (LIMIT + 1, 1)),
        ):
            self.assertEqual(worth(base, writing), fraction, (base, writing))

    def test_tops_and_bottoms_beyond_those_of_a_fraction(self):
        self.assertEqual(worth(10, (LIMIT, [5], [])), (2 * LIMIT + 1, 2))
        self.assertEqual(worth(10, (0, [0, 0, 0, 1], [])), (1, 10000))
        self.assertEqual(worth(10, (LIMIT, [], [0, 0, 0, 1])), (9999 * LIMIT + 1, 9999))
        self.assertEqual(worth(2, (0, [0] * 3999 + [1], [])), (1, 2 ** 4000))

    def test_all_small_writings(self):
        for base, most in ((2, 4), (3, 3), (4, 2)):
            for writing in small_writings(base, (0, 1, 6), most, most):
                self.assertEqual(worth(base, writing), pair(exact_worth(base, writing)))

    def test_writings_in_every_base(self):
        for base in range(2, 37):
            for ahead in (0, 1, 5):
                for ring in (0, 1, 2, 7):
                    writing = (base, spread_figures(base, ahead, base), spread_figures(base, ring, base + 1))
                    self.assertEqual(worth(base, writing), pair(exact_worth(base, writing)))


class IsPlainTest(unittest.TestCase):
    def told(self, base, writing, answer):
        self.assertIs(is_plain(base, writing), answer, (base, writing))

    def test_a_ring_of_noughts_alone(self):
        self.told(10, (1, [5], [0]), False)
        self.told(10, (1, [], [0]), False)
        self.told(10, (1, [5], [0, 0]), False)
        self.told(2, (1, [1], [0]), False)
        self.told(10, (1, [5], [1, 0]), True)
        self.told(10, (1, [5], [1]), True)
        self.told(2, (1, [1], [1, 0]), True)

    def test_a_ring_of_the_greatest_figure_alone(self):
        self.told(10, (1, [5], [9]), False)
        self.told(10, (1, [], [9]), False)
        self.told(10, (1, [5], [9, 9, 9]), False)
        self.told(2, (1, [0], [1]), False)
        self.told(36, (1, [5], [35]), False)
        self.told(10, (1, [5], [8]), True)
        self.told(10, (1, [5], [8, 9]), True)
        self.told(36, (1, [5], [9]), True)
        self.told(36, (1, [5], [34]), True)
        self.told(2, (1, [0], [0, 1]), True)

    def test_a_shorter_ring_told_twice_or_oftener(self):
        self.told(10, (1, [5], [3, 3]), False)
        self.told(10, (1, [5], [1, 2, 1, 2]), False)
        self.told(10, (1, [5], [1, 2, 1, 2, 1, 2]), False)
        self.told(10, (1, [5], [1, 1, 2, 1, 1, 2]), False)
        self.told(10, (1, [5], [7] * 7), False)
        self.told(10, (1, [5], [3]), True)
        self.told(10, (1, [5], [1, 2]), True)
        self.told(10, (1, [5], [1, 2, 1]), True)
        self.told(10, (1, [5], [1, 2, 1, 2, 1]), True)
        self.told(10, (1, [5], [1, 2, 1, 3]), True)

    def test_the_last_figure_ahead_and_that_of_the_ring(self):
        self.told(10, (1, [3], [3]), False)
        self.told(10, (1, [5, 2], [1, 2]), False)
        self.told(10, (1, [0], [1, 0]), False)
        self.told(10, (1, [5, 1], [1, 2]), True)
        self.told(10, (1, [2, 5], [1, 2]), True)
        self.told(10, (1, [0], [1, 2]), True)
        self.told(10, (1, [], [1, 2]), True)

    def test_a_nought_ahead_of_no_ring(self):
        self.told(10, (1, [0], []), False)
        self.told(10, (1, [5, 0], []), False)
        self.told(10, (1, [0, 5], []), True)
        self.told(10, (1, [9], []), True)
        self.told(10, (1, [], []), True)
        self.told(10, (0, [], []), True)

    def test_all_small_writings(self):
        for base, most in ((2, 5), (3, 3), (4, 2)):
            for writing in small_writings(base, (0,), most, most):
                self.told(base, writing, plain_by_words(base, writing))
        for writing in small_writings(2, (1,), 2, 8):
            self.told(2, writing, plain_by_words(2, writing))


class WrittenTest(unittest.TestCase):
    def test_writings_told_by_hand(self):
        for base, top, bottom, writing in (
            (10, 0, 1, (0, [], [])),
            (10, 0, 7, (0, [], [])),
            (10, 6, 3, (2, [], [])),
            (10, 1, 8, (0, [1, 2, 5], [])),
            (10, 1, 3, (0, [], [3])),
            (10, 22, 7, (3, [], [1, 4, 2, 8, 5, 7])),
            (10, 1, 12, (0, [0, 8], [3])),
            (10, 1, 11, (0, [], [0, 9])),
            (2, 1, 10, (0, [0], [0, 0, 1, 1])),
            (3, 1, 2, (0, [], [1])),
            (16, 255, 256, (0, [15, 15], [])),
            (36, 1, 7, (0, [], [5])),
        ):
            self.assertEqual(written(base, top, bottom), writing, (base, top, bottom))

    def test_written_is_plain_and_worth_the_fraction(self):
        for base in (2, 3, 6, 10, 12, 35, 36):
            for bottom in list(range(1, 41)) + [97, 512, 720, 1024, 1999, 2000]:
                for top in (0, 1, 2, bottom - 1, bottom, bottom + 1, 7 * bottom + 3, LIMIT - 1, LIMIT):
                    told = written(base, top, bottom)
                    self.assertTrue(plain_by_words(base, told))
                    self.assertTrue(is_plain(base, told))
                    self.assertEqual(worth(base, told), pair(Fraction(top, bottom)))
                    self.assertEqual(exact_worth(base, told), Fraction(top, bottom))
                    self.assertEqual(plain(base, told), told)

    def test_every_bottom(self):
        for bottom in range(1, 2001):
            told = written(10, bottom + 1, bottom)
            self.assertTrue(plain_by_words(10, told))
            self.assertEqual(exact_worth(10, told), Fraction(bottom + 1, bottom))

    def test_top_and_bottom_taken_a_few_times(self):
        for base in (2, 10, 36):
            for bottom in (1, 2, 3, 6, 7, 12, 28, 99):
                for top in (0, 1, 5, bottom, 1000):
                    for times in (2, 3, 10, 20):
                        self.assertEqual(written(base, top * times, bottom * times), written(base, top, bottom))


class PlainTest(unittest.TestCase):
    def test_plain_writings_told_by_hand(self):
        for base, writing, told in (
            (10, (4, [2, 0, 0], []), (4, [2], [])),
            (10, (4, [0, 0], []), (4, [], [])),
            (10, (4, [2, 0], [0, 0]), (4, [2], [])),
            (10, (4, [], [9]), (5, [], [])),
            (10, (4, [2], [9]), (4, [3], [])),
            (10, (4, [2, 9, 9], [9, 9]), (4, [3], [])),
            (10, (4, [0, 9], [9]), (4, [1], [])),
            (10, (4, [9, 9], [9]), (5, [], [])),
            (10, (4, [9, 0], [9]), (4, [9, 1], [])),
            (10, (0, [], [3, 3]), (0, [], [3])),
            (10, (0, [3, 3, 3], [3, 3]), (0, [], [3])),
            (10, (0, [1, 6, 6], [6]), (0, [1], [6])),
            (10, (0, [7, 1, 2], [1, 2, 1, 2]), (0, [7], [1, 2])),
            (10, (0, [7, 2], [1, 2]), (0, [7], [2, 1])),
            (10, (0, [1, 2, 3, 1, 2], [3, 1, 2]), (0, [], [1, 2, 3])),
            (10, (0, [3, 1, 2, 3], [1, 2, 3]), (0, [], [3, 1, 2])),
            (2, (0, [0, 1], [1]), (0, [1], [])),
            (2, (0, [1, 1], [1]), (1, [], [])),
            (36, (1, [34, 35], [35]), (1, [35], [])),
        ):
            self.assertEqual(plain(base, writing), told, (base, writing))

    def test_the_whole_number_may_be_one_above_the_limit(self):
        self.assertEqual(plain(10, (LIMIT, [], [9])), (LIMIT + 1, [], []))
        self.assertEqual(plain(10, (LIMIT, [9, 9], [9, 9])), (LIMIT + 1, [], []))
        self.assertEqual(plain(2, (LIMIT, [1], [1])), (LIMIT + 1, [], []))
        self.assertEqual(plain(36, (LIMIT, [35], [35])), (LIMIT + 1, [], []))
        self.assertEqual(plain(10, (LIMIT - 1, [], [9])), (LIMIT, [], []))
        self.assertEqual(plain(10, (LIMIT, [8], [9])), (LIMIT, [9], []))

    def test_all_small_writings_and_just_one_plain_for_each_worth(self):
        for base, most_ahead, most_ring in ((2, 4, 4), (3, 3, 3), (4, 2, 2), (2, 1, 8)):
            plain_of_worth = {}
            for writing in small_writings(base, (0, 1), most_ahead, most_ring):
                told = plain(base, writing)
                value = exact_worth(base, writing)
                self.assertTrue(plain_by_words(base, told))
                self.assertTrue(is_plain(base, told))
                self.assertEqual(exact_worth(base, told), value)
                self.assertEqual(worth(base, told), worth(base, writing))
                self.assertIs(is_plain(base, writing), told == writing)
                self.assertEqual(plain_of_worth.setdefault(value, told), told)
                if value.denominator <= 2000:
                    self.assertEqual(written(base, value.numerator, value.denominator), told)

    def test_several_writings_of_one_worth(self):
        for base in (2, 3, 10, 36):
            for top, bottom in ((1, 7), (5, 6), (3, 4), (1, 36), (35, 36), (17, 1), (100, 77), (1, 1999)):
                whole, ahead, ring = written(base, top, bottom)
                told = (whole, ahead, ring)
                others = [(whole, ahead + ring, ring + ring), (whole, ahead, ring * 2)]
                others += [(whole, ahead + ring[:k], ring[k:] + ring[:k]) for k in range(min(9, len(ring)))]
                if not ring:
                    others += [(whole, ahead + [0, 0], []), (whole, ahead + [0], [0]), (whole, ahead, [0, 0])]
                if not ring and ahead:
                    lowered = ahead[:-1] + [ahead[-1] - 1]
                    others += [(whole, lowered, [base - 1]), (whole, lowered + [base - 1], [base - 1] * 2)]
                if not ring and not ahead:
                    others += [(whole - 1, [], [base - 1]), (whole - 1, [base - 1] * 2, [base - 1])]
                for other in others:
                    self.assertEqual(plain(base, other), told)
                    self.assertEqual(worth(base, other), (top, bottom))


class LongWritingsTest(unittest.TestCase):
    def long_writings(self):
        for base in (2, 10, 36):
            yield base, (LIMIT, spread_figures(base, 4000, 1), spread_figures(base, 4000, 2))
            yield base, (1, spread_figures(base, 3999, 3), spread_figures(base, 3989, 4))
            yield base, (1, [0] * 4000, [0] * 3999 + [1])
            yield base, (1, [0, 1] * 2000, [0, 1] * 2000)
            yield base, (1, [0] * 4000, [0] * 4000)
            yield base, (LIMIT, [base - 1] * 4000, [base - 1] * 4000)
            yield base, (1, [1] * 4000, [])
            yield base, (1, [], ([0] * 1999 + [1]) * 2)
            # Figures ahead that are the ring's own, all of them to be drawn in.
            ring = spread_figures(base, 3989, 5)
            yield base, (1, [0] * 11 + ring, ring)

    def test_long_writings_are_answered_right_and_in_good_time(self):
        for base, writing in self.long_writings():
            start = time.perf_counter()
            told = plain(base, writing)
            value = worth(base, writing)
            answer = is_plain(base, writing)
            self.assertLess(time.perf_counter() - start, GOOD_TIME)
            self.assertTrue(plain_by_words(base, told))
            self.assertIs(answer, told == writing)
            self.assertEqual(value, pair(exact_worth(base, writing)))
            self.assertEqual(value, pair(exact_worth(base, told)))

    def test_long_rings_are_drawn_in_whole(self):
        ring = spread_figures(10, 3989, 5)
        self.assertEqual(plain(10, (1, [(ring[-1] + 1) % 10] + ring, ring)), (1, [(ring[-1] + 1) % 10], ring))
        self.assertEqual(plain(10, (1, ring[:10], ring[10:] + ring[:10])), (1, [], ring))

    def test_long_rings_of_fractions(self):
        start = time.perf_counter()
        whole, ahead, ring = written(10, LIMIT, 1979)
        self.assertLess(time.perf_counter() - start, GOOD_TIME)
        self.assertEqual((len(ahead), len(ring)), (0, 1978))
        self.assertEqual(exact_worth(10, (whole, ahead, ring)), Fraction(LIMIT, 1979))


if __name__ == "__main__":
    unittest.main()
