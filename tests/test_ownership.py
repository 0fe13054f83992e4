"""Promise [1]: what is handed in stays as it was, and what is told is the asker's own."""

import unittest
from copy import deepcopy

from ringfigures.errors import FigureError
from ringfigures.writing import is_plain, plain, worth, written

from oracle import SOME_WRITINGS

FRACTIONS = [(10, 0, 1), (10, 5, 1), (10, 1, 4), (10, 1, 3), (10, 1, 6), (2, 1, 3), (36, 7, 1999)]


def spoil(writing):
    writing[1].append(77)
    writing[2].insert(0, 78)


class HandedInTest(unittest.TestCase):
    def test_a_writing_stays_as_it_was(self):
        for base, writing in deepcopy(SOME_WRITINGS):
            before = deepcopy(writing)
            for ask in (worth, plain, is_plain):
                ask(base, writing)
                self.assertEqual(writing, before)

    def test_a_refused_writing_stays_as_it_was(self):
        for writing in ((-1, [0, 9], [9, 9]), (1, [0, 10], [9]), (1, [0, 9], [9, 9, 10])):
            before = deepcopy(writing)
            for ask in (worth, plain, is_plain):
                with self.assertRaises(FigureError):
                    ask(10, writing)
                self.assertEqual(writing, before)

    def test_a_writing_changed_afterwards_changes_no_answer(self):
        for base, writing in deepcopy(SOME_WRITINGS):
            same = deepcopy(writing)
            told = plain(base, writing)
            kept = deepcopy(told)
            answers = (worth(base, writing), is_plain(base, writing))
            spoil(writing)
            self.assertEqual(told, kept)
            self.assertEqual(plain(base, same), kept)
            self.assertEqual((worth(base, same), is_plain(base, same)), answers)

    def test_a_changed_writing_is_answered_as_it_is_now(self):
        writing = (0, [1], [6])
        self.assertEqual(worth(10, writing), (1, 6))
        self.assertIs(is_plain(10, writing), True)
        self.assertEqual(plain(10, writing), (0, [1], [6]))
        writing[2][0] = 1
        self.assertEqual(worth(10, writing), (1, 9))
        self.assertIs(is_plain(10, writing), False)
        self.assertEqual(plain(10, writing), (0, [], [1]))

    def test_one_list_may_be_handed_in_twice(self):
        figures = [1, 2]
        told = plain(10, (0, figures, figures))
        self.assertEqual(told, (0, [], [1, 2]))
        self.assertIsNot(told[2], figures)
        empty = []
        told = plain(10, (4, empty, empty))
        self.assertIsNot(told[1], told[2])


class ToldTest(unittest.TestCase):
    def test_written_is_told_again_after_its_lists_are_changed(self):
        for base, top, bottom in FRACTIONS:
            told = written(base, top, bottom)
            kept = deepcopy(told)
            spoil(told)
            self.assertEqual(written(base, top, bottom), kept)

    def test_plain_is_told_again_after_its_lists_are_changed(self):
        for base, writing in deepcopy(SOME_WRITINGS):
            told = plain(base, writing)
            kept = deepcopy(told)
            spoil(told)
            self.assertEqual(plain(base, writing), kept)

    def test_no_two_lists_of_written_are_one(self):
        for base, top, bottom in FRACTIONS:
            told = written(base, top, bottom)
            again = written(base, top, bottom)
            lists = [told[1], told[2], again[1], again[2]]
            self.assertEqual(len({id(one) for one in lists}), 4)

    def test_no_two_lists_of_plain_are_one_nor_handed_in(self):
        for base, writing in deepcopy(SOME_WRITINGS):
            told = plain(base, writing)
            again = plain(base, writing)
            lists = [writing[1], writing[2], told[1], told[2], again[1], again[2]]
            self.assertEqual(len({id(one) for one in lists}), 6)

    def test_the_writings_above_hold_plain_and_empty_ones(self):
        self.assertTrue(any(is_plain(base, writing) and writing[2] for base, writing in SOME_WRITINGS))
        self.assertTrue(any(writing[1:] == ([], []) for base, writing in SOME_WRITINGS))


if __name__ == "__main__":
    unittest.main()
