"""Promise [1]: what is handed in stays as it was, and what is told is the asker's own."""

import unittest
from copy import deepcopy

from ringfigures.errors import FigureError, TooLong
from ringfigures.lengths import folds
from ringfigures.notes import read, shown
from ringfigures.reckoning import added, times
from ringfigures.writing import is_plain, plain, worth, written

from calls import OF_WRITINGS, RECKONING_WITH_WRITINGS
from oracle import SOME_WRITINGS

FRACTIONS = [(10, 0, 1), (10, 5, 1), (10, 1, 4), (10, 1, 3), (10, 1, 6), (2, 1, 3), (36, 7, 1999)]
RINGS = [[], [0], [9], [0, 9], [1, 4, 2, 8, 5, 7], [1, 2, 3], [4, 4]]
TEXTS = ["0", "7", "0.5", "0.50", "0.(3)", "0.1(6)", "12.(99)", "1.(0)"]
TELLING_WRITINGS = [plain] + RECKONING_WITH_WRITINGS + [lambda base, writing: read(base, shown(base, writing))]


def spoil(writing):
    writing[1].append(77)
    writing[2].insert(0, 78)


def answered(ask, base, writing):
    # A sum or a multiple above the limits is refused, and has to leave things as they were too.
    try:
        return ask(base, writing)
    except TooLong:
        return None


def lists_of(told):
    return [part for part in told if isinstance(part, list)]


class HandedInTest(unittest.TestCase):
    def test_a_writing_stays_as_it_was(self):
        for base, writing in deepcopy(SOME_WRITINGS):
            before = deepcopy(writing)
            for ask in OF_WRITINGS:
                answered(ask, base, writing)
                self.assertEqual(writing, before)

    def test_both_writings_of_a_sum_stay_as_they_were(self):
        for base, one in deepcopy(SOME_WRITINGS):
            for other_base, other in deepcopy(SOME_WRITINGS):
                if base == other_base:
                    before = deepcopy((one, other))
                    answered(lambda base, writing: added(base, writing, other), base, one)
                    self.assertEqual((one, other), before)

    def test_a_ring_stays_as_it_was(self):
        for ring in RINGS + [[0, 9, 10], [-1], [0] * 4001]:
            before = list(ring)
            try:
                folds(10, ring)
            except FigureError:
                pass
            self.assertEqual(ring, before)

    def test_a_ring_changed_afterwards_is_answered_as_it_is_now(self):
        ring = [0, 9]
        self.assertIs(folds(10, ring), True)
        ring[1] = 8
        self.assertIs(folds(10, ring), False)
        ring[0] = 1
        self.assertIs(folds(10, ring), True)
        ring.append(0)
        self.assertIs(folds(10, ring), False)

    def test_a_refused_writing_stays_as_it_was(self):
        for writing in ((-1, [0, 9], [9, 9]), (1, [0, 10], [9]), (1, [0, 9], [9, 9, 10])):
            before = deepcopy(writing)
            for ask in OF_WRITINGS:
                with self.assertRaises(FigureError):
                    ask(10, writing)
                self.assertEqual(writing, before)

    def test_a_writing_changed_afterwards_changes_no_answer(self):
        for ask in OF_WRITINGS:
            for base, writing in deepcopy(SOME_WRITINGS):
                same = deepcopy(writing)
                told = answered(ask, base, writing)
                kept = deepcopy(told)
                spoil(writing)
                self.assertEqual(told, kept)
                self.assertEqual(answered(ask, base, same), kept)

    def test_a_changed_writing_is_answered_as_it_is_now(self):
        writing = (0, [1], [6])
        self.assertEqual(worth(10, writing), (1, 6))
        self.assertIs(is_plain(10, writing), True)
        self.assertEqual(plain(10, writing), (0, [1], [6]))
        self.assertEqual(added(10, writing, writing), (0, [], [3]))
        self.assertEqual(times(10, writing, 3), (0, [5], []))
        self.assertEqual(shown(10, writing), "0.1(6)")
        writing[2][0] = 1
        self.assertEqual(worth(10, writing), (1, 9))
        self.assertIs(is_plain(10, writing), False)
        self.assertEqual(plain(10, writing), (0, [], [1]))
        self.assertEqual(added(10, writing, writing), (0, [], [2]))
        self.assertEqual(times(10, writing, 3), (0, [], [3]))
        self.assertEqual(shown(10, writing), "0.1(1)")

    def test_one_list_may_be_handed_in_twice(self):
        figures = [1, 2]
        told = plain(10, (0, figures, figures))
        self.assertEqual(told, (0, [], [1, 2]))
        self.assertIsNot(told[2], figures)
        empty = []
        for ask in TELLING_WRITINGS:
            told = ask(10, (4, empty, empty))
            self.assertEqual(len({id(one) for one in lists_of(told) + [empty]}), 3)
            spoil(told)
            self.assertEqual(empty, [])


class ToldTest(unittest.TestCase):
    def test_written_is_told_again_after_its_lists_are_changed(self):
        for base, top, bottom in FRACTIONS:
            told = written(base, top, bottom)
            kept = deepcopy(told)
            spoil(told)
            self.assertEqual(written(base, top, bottom), kept)

    def test_writings_are_told_again_after_their_lists_are_changed(self):
        for ask in TELLING_WRITINGS:
            for base, writing in deepcopy(SOME_WRITINGS):
                before = deepcopy(writing)
                told = answered(ask, base, writing)
                if told is not None:
                    kept = deepcopy(told)
                    spoil(told)
                    self.assertEqual(writing, before)
                    self.assertEqual(ask(base, writing), kept)

    def test_texts_are_read_again_after_the_lists_are_changed(self):
        for text in TEXTS:
            told = read(10, text)
            kept = deepcopy(told)
            spoil(told)
            self.assertEqual(read(10, text), kept)

    def test_no_two_lists_of_written_are_one(self):
        for base, top, bottom in FRACTIONS:
            told = written(base, top, bottom)
            again = written(base, top, bottom)
            lists = [told[1], told[2], again[1], again[2]]
            self.assertEqual(len({id(one) for one in lists}), 4)

    def test_no_two_lists_of_writings_told_are_one_nor_handed_in(self):
        for ask in TELLING_WRITINGS:
            for base, writing in deepcopy(SOME_WRITINGS):
                told = answered(ask, base, writing)
                if told is not None:
                    lists = lists_of(writing) + lists_of(told) + lists_of(ask(base, writing))
                    self.assertEqual(len({id(one) for one in lists}), 6)

    def test_no_two_lists_of_a_sum_are_one_nor_handed_in(self):
        for one in ((0, [], []), (0, [5], []), (0, [], [3]), (0, [1], [6])):
            for other in ((0, [], []), (1, [2, 5], []), (1, [], [6]), (1, [0], [3])):
                told = added(10, one, other)
                lists = lists_of(one) + lists_of(other) + lists_of(told) + lists_of(added(10, one, other))
                self.assertEqual(len({id(part) for part in lists}), 8)

    def test_no_two_lists_of_texts_read_are_one(self):
        for text in TEXTS:
            lists = lists_of(read(10, text)) + lists_of(read(10, text))
            self.assertEqual(len({id(one) for one in lists}), 4)

    def test_the_writings_above_hold_plain_and_empty_ones(self):
        self.assertTrue(any(is_plain(base, writing) and writing[2] for base, writing in SOME_WRITINGS))
        self.assertTrue(any(writing[1:] == ([], []) for base, writing in SOME_WRITINGS))


if __name__ == "__main__":
    unittest.main()
