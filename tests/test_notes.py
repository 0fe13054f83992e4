"""Promise [12], and the interface of ringfigures.notes."""

import inspect
import time
import unittest
from itertools import product

from ringfigures.errors import NoBase, NoNote, NoWriting
from ringfigures.notes import read, shown
from ringfigures.writing import written

from oracle import LIMIT, SIGNS, SOME_WRITINGS, note_by_words, small_writings, spread_figures

GOOD_TIME = 5
HANDED_IN = "\t\n" + "".join(chr(code) for code in range(32, 127) if chr(code) != "%")

TOLD_BY_HAND = [
    (10, (0, [], []), "0"),
    (10, (7, [], []), "7"),
    (10, (10, [], []), "10"),
    (10, (1200, [], []), "1200"),
    (10, (0, [5], []), "0.5"),
    (10, (3, [1, 4], []), "3.14"),
    (10, (0, [0], []), "0.0"),
    (10, (0, [0, 0, 5, 0], []), "0.0050"),
    (10, (0, [], [3]), "0.(3)"),
    (10, (0, [], [0]), "0.(0)"),
    (10, (12, [], [9, 9]), "12.(99)"),
    (10, (0, [1], [6]), "0.1(6)"),
    (10, (5, [0, 0], [0, 9, 0]), "5.00(090)"),
    (2, (0, [], []), "0"),
    (2, (1, [], []), "1"),
    (2, (5, [0, 1], [1, 0]), "101.01(10)"),
    (3, (9, [2], [1]), "100.2(1)"),
    (11, (10, [10], [10]), "a.a(a)"),
    (16, (255, [10, 15], [0, 12]), "ff.af(0c)"),
    (16, (16, [], []), "10"),
    (36, (35, [35], [35]), "z.z(z)"),
    (36, (36, [], [10, 35]), "10.(az)"),
    (36, (36 * 36 - 1, [9, 10], []), "zz.9a"),
    (10, (LIMIT, [], []), "1000000000000"),
    (10, (LIMIT, [9], [8]), "1000000000000.9(8)"),
    (2, (LIMIT, [], []), "1110100011010100101001010001000000000000"),
    (36, (LIMIT, [], []), "cre66i9s"),
    (36, (LIMIT, [0], [0]), "cre66i9s.0(0)"),
]


class InterfaceTest(unittest.TestCase):
    def test_names_and_arguments(self):
        self.assertEqual(list(inspect.signature(shown).parameters), ["base", "writing"])
        self.assertEqual(list(inspect.signature(read).parameters), ["base", "text"])
        self.assertEqual(shown(base=10, writing=(0, [1], [6])), "0.1(6)")
        self.assertEqual(read(base=10, text="0.1(6)"), (0, [1], [6]))

    def test_kinds(self):
        for base, writing, text in TOLD_BY_HAND:
            self.assertIs(type(shown(base, writing)), str)
            told = read(base, text)
            self.assertIs(type(told), tuple)
            self.assertEqual([type(part) for part in told], [int, list, list])
            for figure in told[1] + told[2]:
                self.assertIs(type(figure), int)


class ShownAndReadTest(unittest.TestCase):
    def there_and_back(self, base, writing):
        text = shown(base, writing)
        self.assertEqual(text, note_by_words(base, writing))
        self.assertEqual(read(base, text), writing)

    def test_texts_told_by_hand(self):
        for base, writing, text in TOLD_BY_HAND:
            self.assertEqual(shown(base, writing), text)
            self.assertEqual(read(base, text), writing)

    def test_one_text_in_several_bases(self):
        self.assertEqual(read(2, "10.1(01)"), (2, [1], [0, 1]))
        self.assertEqual(read(10, "10.1(01)"), (10, [1], [0, 1]))
        self.assertEqual(read(36, "10.1(01)"), (36, [1], [0, 1]))

    def test_each_figure_of_each_base(self):
        for base in range(2, 37):
            figures = list(range(base))
            self.assertEqual(shown(base, (0, figures, figures)), "0." + SIGNS[:base] + "(" + SIGNS[:base] + ")")
            self.there_and_back(base, (0, figures, figures))
            for figure in figures:
                self.assertEqual(shown(base, (figure, [], [])), SIGNS[figure])
                self.there_and_back(base, (figure, [figure], [figure]))

    def test_whole_numbers_in_each_base(self):
        for base in range(2, 37):
            for whole in (0, 1, base - 1, base, base + 1, base ** 2 - 1, base ** 2, base ** 5, LIMIT - 1, LIMIT):
                if whole <= LIMIT:
                    for ahead, ring in (([], []), ([0], []), ([], [1]), ([1], [0])):
                        self.there_and_back(base, (whole, ahead, ring))

    def test_all_small_writings_plain_or_not(self):
        for base, most in ((2, 4), (3, 3), (4, 2)):
            texts = {}
            for writing in small_writings(base, (0, 1, 6), most, most):
                self.there_and_back(base, writing)
                self.assertNotIn(shown(base, writing), texts)
                texts[shown(base, writing)] = True

    def test_some_writings_and_fractions(self):
        for base, writing in SOME_WRITINGS:
            self.there_and_back(base, writing)
        for base in (2, 10, 36):
            for top, bottom in ((1, 7), (LIMIT, 1999), (LIMIT, 1), (1, 2000), (35, 36), (1, 1979)):
                self.there_and_back(base, written(base, top, bottom))

    def test_the_most_figures_ahead_and_in_the_ring(self):
        start = time.perf_counter()
        for base in (2, 10, 36):
            for ahead in ([], [0] * 4000, spread_figures(base, 4000, 1)):
                for ring in ([], [0] * 4000, spread_figures(base, 4000, 2)):
                    self.there_and_back(base, (LIMIT, ahead, ring))
        self.assertLess(time.perf_counter() - start, GOOD_TIME)

    def test_shown_refuses_what_is_no_writing(self):
        for writing in ((-1, [], []), (LIMIT + 1, [], []), (0, [10], []), (0, [], [-1]), (0, [], [0] * 4001)):
            with self.assertRaises(NoWriting):
                shown(10, writing)


class NoNoteTest(unittest.TestCase):
    def refused(self, base, text):
        with self.assertRaises(NoNote, msg=(base, text)):
            read(base, text)

    def all_bases(self, *texts):
        for text in texts:
            for base in (2, 10, 36):
                self.refused(base, text)

    def test_the_empty_text_and_no_whole_number(self):
        self.all_bases("", ".", ".1", ".(1)", ".1(1)", "(1)", "()", "(", ")")

    def test_a_nought_ahead_of_other_figures(self):
        self.all_bases("00", "01", "010", "000", "00.1", "01.1", "00.(1)", "01.(1)", "0" * 40, "0" * 9000)

    def test_a_point_with_nothing_behind_it_or_twice(self):
        self.all_bases("1.", "0.", "1..", "1..1", "1.1.", "1.1.1", "1.1.(1)", "1.(1.1)", "1.(1).", "1.(1).1")

    def test_a_ring_that_is_empty(self):
        self.all_bases("1.()", "1.1()", "0.()", "1()")

    def test_a_ring_without_a_point(self):
        self.all_bases("1(1)", "0(1)", "1(1).1", "(1).1")

    def test_a_ring_that_is_not_closed_or_not_opened(self):
        self.all_bases("1.(", "1.(1", "1.1(", "1.1(1", "1.)", "1.1)", "1.1)1", "1.)1(", "1)", "1.(1(")

    def test_a_ring_that_stands_twice(self):
        self.all_bases("1.(1)(1)", "1.((1))", "1.(1))", "1.((1)", "1.(1(1))", "1.()()", "1.(1)1(1)", "1.(1)()")

    def test_something_behind_the_ring(self):
        self.all_bases("1.(1)1", "1.(1)0", "1.1(1)1", "1.(1) ", "1.(1)\n", "1.(1)\t", "1.(1)x")

    def test_blanks_tabs_and_line_ends(self):
        for sign in " \t\n":
            good = "1.1(1)"
            self.all_bases(sign, sign * 3)
            for place in range(len(good) + 1):
                self.all_bases(good[:place] + sign + good[place:])

    def test_signs_and_low_lines(self):
        self.all_bases("+1", "-1", "-0", "+0.1", "1.+1", "1.-1", "1.(-1)", "--1", "1_0", "_1", "1_", "1.1_0", "1.(1_0)")
        self.all_bases("1,1", "1e1.", "0x1.", "0b1.", "1/10", "1.1[1]", "1.1{1}", "'1'", "\"1\"", "1\\1", "#1", "~1")

    def test_great_letters(self):
        self.all_bases("A", "Z", "1.A", "1.Z", "1.(A)", "1.(Z)", "1A", "A.1(1)")
        for letter in "ABCDEFGHIJKLMNOPQRSTUVWXYZ":
            self.refused(36, letter)
            self.refused(36, "1." + letter)
            self.refused(36, "1.(" + letter + ")")

    def test_figures_that_the_base_does_not_have(self):
        for base in range(2, 37):
            for sign in SIGNS[base:]:
                for text in ("{}", "1{}", "1.{}", "1.1{}1", "1.({})", "1.1(1{}1)", "{}.1(1)", "1.{}(1)"):
                    self.refused(base, text.replace("{}", sign))
            last = SIGNS[base - 1]
            self.assertEqual(read(base, last + "." + last + "(" + last + ")"), (base - 1, [base - 1], [base - 1]))

    def test_every_sign_put_in_at_every_place(self):
        good = "11.1(1)"
        for base in (2, 10, 36):
            for sign in HANDED_IN:
                for place in range(len(good) + 1):
                    text = good[:place] + sign + good[place:]
                    # The nought ahead is the one figure that may not stand wherever figures do.
                    figure = sign in SIGNS[:base] and place < len(good) and not (sign == "0" and place == 0)
                    if figure:
                        self.assertEqual(shown(base, read(base, text)), text)
                    else:
                        self.refused(base, text)

    def test_all_short_texts(self):
        # A text is read just where a writing is shown by it.
        texts = {}
        for writing in small_writings(2, range(64), 5, 3):
            texts[note_by_words(2, writing)] = writing
        found = 0
        for count in range(7):
            for signs in product("012.()", repeat=count):
                text = "".join(signs)
                if text in texts:
                    found += 1
                    self.assertEqual(read(2, text), texts[text])
                else:
                    self.refused(2, text)
        self.assertGreater(found, 100)

    def test_too_many_figures(self):
        for base in (2, 36):
            for figure in "01":
                most = figure * 4000
                self.assertEqual(read(base, "1." + most), (1, [int(figure)] * 4000, []))
                self.assertEqual(read(base, "1.(" + most + ")"), (1, [], [int(figure)] * 4000))
                self.refused(base, "1." + most + figure)
                self.refused(base, "1." + most + figure + "(1)")
                self.refused(base, "1.(" + most + figure + ")")
                self.refused(base, "1.1(" + most + figure + ")")
                self.refused(base, "1." + most + figure + "(" + most + figure + ")")
                self.refused(base, "1." + figure * 8998)

    def test_whole_numbers_above_the_limit(self):
        for base in range(2, 37):
            greatest = note_by_words(base, (LIMIT, [], []))
            above = note_by_words(base, (LIMIT + 1, [], []))
            for behind in ("", ".1", ".(1)", ".1(1)"):
                self.assertEqual(read(base, greatest + behind)[0], LIMIT)
                self.refused(base, above + behind)
                self.refused(base, greatest + "0" + behind)
                self.refused(base, "1" * 4000 + behind)
                self.refused(base, "1" * 8900 + behind)

    def test_no_base_goes_first(self):
        for base in (1, 0, -1, -10, 37, 38, 10 ** 5000):
            for text in ("", "1", "0.1(6)", "1.", "abc", "Z", "1.(" + "0" * 4001 + ")"):
                with self.assertRaises(NoBase):
                    read(base, text)
            for writing in ((0, [], []), (-1, [], []), (0, [99], [])):
                with self.assertRaises(NoBase):
                    shown(base, writing)

    def test_long_texts_in_good_time(self):
        texts = ["z" * 9000, "1." + "z" * 8998, "(" * 9000, "1" + "." * 8999, "1." + "()" * 4499, "1.(" + "1" * 8997]
        start = time.perf_counter()
        for text in texts:
            self.refused(36, text)
            self.refused(2, text)
        self.assertLess(time.perf_counter() - start, GOOD_TIME)


if __name__ == "__main__":
    unittest.main()
