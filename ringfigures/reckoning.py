"""Sums and multiples of writings, told as plain writings."""

from ringfigures.checks import GREATEST_BOTTOM, GREATEST_WHOLE, check_number
from ringfigures.errors import TooLong
from ringfigures.writing import common_measure, divided_out, worth


def added(base, one, other):
    first = worth(base, one)
    second = worth(base, other)
    top = first[0] * second[1] + second[0] * first[1]
    return result_of(base, top, first[1] * second[1])


def times(base, writing, number):
    # The worth goes first: its refusals, of the base and the writing, are told ahead of that of the number.
    value = worth(base, writing)
    check_number(number)
    return result_of(base, value[0] * number, value[1])


def result_of(base, top, bottom):
    if top // bottom > GREATEST_WHOLE:
        raise TooLong("the whole number of a result is at most 10 ** 12")
    common = common_measure(top, bottom)
    if bottom // common > GREATEST_BOTTOM:
        raise TooLong("the bottom of a result in lowest terms is at most 2000")
    # Not by written: the top of a result may be above that of a fraction that is handed in.
    return divided_out(base, top // common, bottom // common)
