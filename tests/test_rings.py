"""Promises [9] and [10], and the interface of folds."""

import inspect
import unittest

from ringfigures.lengths import figure_at, folds, lengths
from ringfigures.writing import written

from oracle import LIMIT, primes, spread_figures, tops_in_lowest_terms


class InterfaceTest(unittest.TestCase):
    def test_names_arguments_and_kinds(self):
        self.assertEqual(list(inspect.signature(folds).parameters), ["base", "ring"])
        self.assertIs(folds(base=10, ring=[0, 9]), True)
        for ring in ([], [0], [9], [4, 5], [4, 4], [1, 2, 3], [0] * 4000):
            self.assertIs(type(folds(10, ring)), bool)


class BaseTimesTest(unittest.TestCase):
    def fractions(self):
        for base in (2, 3, 10, 12, 36):
            for bottom in list(range(1, 41)) + [96, 97, 360, 1750, 1979, 2000]:
                for top in (0, 1, 2, bottom - 1, bottom + 1, 5 * bottom + 3, LIMIT // base):
                    yield base, top, bottom

    def test_the_writing_goes_on_a_figure_further(self):
        for base, top, bottom in self.fractions():
            whole, ahead, ring = written(base, top, bottom)
            further = written(base, top * base, bottom)
            if ahead:
                self.assertEqual(further[1:], (ahead[1:], ring), (base, top, bottom))
            else:
                self.assertEqual(further[1:], ([], ring[1:] + ring[:1]), (base, top, bottom))
            self.assertEqual(further[0], whole * base + (ahead + ring + [0])[0])

    def test_further_until_the_ring_has_come_round(self):
        for base, top, bottom in ((10, 1, 7), (10, 3, 13), (2, 1, 11), (36, 5, 37), (10, 6, 81)):
            first = written(base, top, bottom)
            rest = top
            for turns in range(1, len(first[2]) + 1):
                rest = rest * base % bottom
                self.assertEqual(written(base, rest, bottom)[2], first[2][turns:] + first[2][:turns])
            self.assertEqual(rest, top)

    def test_each_figure_is_the_next_one_of_the_elder_fraction(self):
        for base, top, bottom in self.fractions():
            for place in (0, 1, 2, 5, 11, 12345, 10 ** 20, 10 ** 40 - 2):
                further = figure_at(base, top * base, bottom, place)
                self.assertEqual(further, figure_at(base, top, bottom, place + 1), (base, top, bottom, place))


class FoldsTest(unittest.TestCase):
    def told(self, base, ring, answer):
        self.assertIs(folds(base, ring), answer, (base, ring))

    def test_rings_that_fold(self):
        self.told(10, [0, 9], True)
        self.told(10, [4, 5], True)
        self.told(10, [9, 0], True)
        self.told(10, [1, 4, 2, 8, 5, 7], True)
        self.told(10, [0, 0, 9, 9], True)
        self.told(2, [0, 1], True)
        self.told(2, [0, 0, 1, 1], True)
        self.told(3, [1, 1], True)
        self.told(3, [1, 1, 1, 1], True)
        self.told(36, [0, 35], True)
        self.told(36, [10, 20, 25, 15], True)

    def test_rings_that_do_not_fold(self):
        self.told(10, [4, 4], False)
        self.told(10, [9, 9], False)
        self.told(10, [0, 0], False)
        self.told(10, [0, 9, 0, 9], False)
        self.told(10, [0, 9, 9, 9], False)
        self.told(10, [0, 0, 0, 9], False)
        self.told(10, [1, 8, 2, 7], False)
        self.told(10, [0, 4, 7, 6, 1, 9], False)
        self.told(2, [0, 0], False)
        self.told(2, [1, 1], False)
        self.told(3, [0, 1], False)
        self.told(36, [0, 9], False)
        self.told(36, [1, 35], False)

    def test_the_greatest_figure_is_that_of_the_base(self):
        self.told(10, [1, 0], False)
        self.told(2, [1, 0], True)
        self.told(3, [0, 2], True)
        self.told(4, [0, 2], False)
        for base in range(2, 37):
            for ring in ([0, base - 1], [1, base - 2], [base - 1, 0, 0, base - 1]):
                for other in range(2, 37):
                    if other >= base:
                        self.told(other, ring, other == base)

    def test_no_figure_one_and_an_odd_number_of_them(self):
        for base in (2, 3, 10, 36):
            self.told(base, [], False)
            for figure in range(base):
                self.told(base, [figure], False)
            for count in (3, 5, 7, 3999):
                self.told(base, [0] * count, False)
                self.told(base, [base - 1] * count, False)
                self.told(base, [0] * (count // 2) + [base - 1] * (count - count // 2), False)
        self.told(3, [1], False)
        self.told(3, [1, 1, 1], False)
        self.told(11, [5, 5, 5], False)
        self.told(10, [0, 9, 4], False)
        self.told(10, [0, 4, 9], False)

    def test_one_figure_changed_at_each_place(self):
        for base in (2, 3, 10, 36):
            for half in (1, 2, 3, 8):
                first = spread_figures(base, half, half)
                ring = first + [base - 1 - figure for figure in first]
                self.told(base, ring, True)
                for place in range(2 * half):
                    for figure in range(base):
                        changed = ring[:place] + [figure] + ring[place + 1:]
                        self.told(base, changed, figure == ring[place])

    def test_long_rings(self):
        for base in (2, 10, 36):
            first = spread_figures(base, 2000, base)
            ring = first + [base - 1 - figure for figure in first]
            self.told(base, ring, True)
            for place in (0, 1, 1999, 2000, 2001, 3999):
                changed = list(ring)
                changed[place] = (changed[place] + 1) % base
                self.told(base, changed, False)


class PrimeBottomsTest(unittest.TestCase):
    def even_rings(self, base, bottom, tops):
        found = 0
        for top in tops:
            ring = written(base, top, bottom)[2]
            if len(ring) % 2 == 0:
                found += 1
                self.assertIs(folds(base, ring), True, (base, top, bottom))
            else:
                self.assertIs(folds(base, ring), False, (base, top, bottom))
        return found

    def test_all_fractions_of_small_prime_bottoms(self):
        found = 0
        for base in (2, 3, 6, 10, 12, 35, 36):
            for bottom in primes(101):
                if base % bottom:
                    found += self.even_rings(base, bottom, tops_in_lowest_terms(bottom))
        self.assertGreater(found, 1000)

    def test_some_fractions_of_every_prime_bottom(self):
        for base in (2, 10, 36):
            found = 0
            for bottom in primes(2000):
                if base % bottom:
                    found += self.even_rings(base, bottom, (1, bottom - 1, bottom + 1, 7 * bottom + 1))
            self.assertGreater(found, 100)

    def test_the_lengths_tell_which_of_them_fold(self):
        for base in (2, 10, 36):
            for bottom in primes(500):
                if base % bottom:
                    even = lengths(base, bottom)[1] % 2 == 0
                    self.assertIs(folds(base, written(base, 1, bottom)[2]), even, (base, bottom))

    def test_other_bottoms_need_not_have_rings_that_fold(self):
        self.assertIs(folds(10, written(10, 1, 21)[2]), False)
        self.assertIs(folds(10, written(10, 1, 49)[2]), True)
        self.assertIs(folds(10, written(10, 1, 33)[2]), False)
        self.assertIs(folds(10, written(10, 1, 22)[2]), True)
        self.assertIs(folds(10, written(10, 1, 77)[2]), True)


if __name__ == "__main__":
    unittest.main()
