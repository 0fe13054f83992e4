"""What bases, fractions, writings and numbers there are; the others are refused."""

from ringfigures.errors import NoBase, NoFraction, NoNumber, NoWriting

LEAST_BASE = 2
GREATEST_BASE = 36
GREATEST_TOP = 1000000000000
GREATEST_BOTTOM = 2000
GREATEST_WHOLE = 1000000000000
MOST_FIGURES = 4000
GREATEST_NUMBER = 1000000


# The refusals' words hold no number: Python itself refuses to write out a very long one.


def check_base(base):
    if base < LEAST_BASE or base > GREATEST_BASE:
        raise NoBase("a base is a whole number from 2 to 36")


def check_fraction(top, bottom):
    if top < 0 or top > GREATEST_TOP:
        raise NoFraction("the top of a fraction is from 0 to 10 ** 12")
    check_bottom(bottom)


def check_bottom(bottom):
    if bottom < 1 or bottom > GREATEST_BOTTOM:
        raise NoFraction("the bottom of a fraction is from 1 to 2000")


def check_figures(base, figures):
    if len(figures) > MOST_FIGURES:
        raise NoWriting("at most 4000 figures stand ahead or in the ring")
    for figure in figures:
        if figure < 0 or figure >= base:
            raise NoWriting("a figure is from nought to below the base")


def check_writing(base, writing):
    if writing[0] < 0 or writing[0] > GREATEST_WHOLE:
        raise NoWriting("the whole number of a writing is from 0 to 10 ** 12")
    check_figures(base, writing[1])
    check_figures(base, writing[2])


def check_number(number):
    if number < 0 or number > GREATEST_NUMBER:
        raise NoNumber("a writing is taken from 0 to 10 ** 6 times")
