"""Writings to texts, and texts to writings."""

from ringfigures.checks import GREATEST_WHOLE, MOST_FIGURES, check_base, check_writing
from ringfigures.errors import NoNote
from ringfigures.writing import number_of

SIGNS = "0123456789abcdefghijklmnopqrstuvwxyz"


def shown(base, writing):
    check_base(base)
    check_writing(base, writing)
    text = text_of(figures_of_whole(base, writing[0]))
    if writing[1] == [] and writing[2] == []:
        return text
    text = text + "." + text_of(writing[1])
    if writing[2] == []:
        return text
    return text + "(" + text_of(writing[2]) + ")"


def text_of(figures):
    return "".join([SIGNS[figure] for figure in figures])


def figures_of_whole(base, whole):
    figures = [whole % base]
    rest = whole // base
    while rest > 0:
        figures.append(rest % base)
        rest = rest // base
    figures.reverse()
    return figures


def read(base, text):
    check_base(base)
    parts = text.partition(".")
    whole = whole_read(base, parts[0])
    if parts[1] == "":
        return (whole, [], [])
    behind = parts[2].partition("(")
    ahead = figures_read(base, behind[0])
    if behind[1] == "":
        if ahead == []:
            raise NoNote("behind a point stand figures or a ring")
        return (whole, ahead, [])
    return (whole, ahead, ring_read(base, behind[2]))


def whole_read(base, text):
    if text == "":
        raise NoNote("a text begins with the figures of a whole number")
    if text[0] == "0" and text != "0":
        raise NoNote("no nought stands ahead of the other figures of a whole number")
    whole = number_of(base, figures_read(base, text))
    if whole > GREATEST_WHOLE:
        raise NoNote("the whole number of a text is at most 10 ** 12")
    return whole


def ring_read(base, text):
    # A second bracket or anything behind the ring is left in its text, where it is no figure.
    if not text.endswith(")") or text == ")":
        raise NoNote("a ring has figures, and a bracket closes it at the text's end")
    return figures_read(base, text[:-1])


def figures_read(base, text):
    if len(text) > MOST_FIGURES:
        raise NoNote("at most 4000 figures stand in a row")
    return [figure_read(base, sign) for sign in text]


def figure_read(base, sign):
    figure = SIGNS.find(sign)
    if figure < 0 or figure >= base:
        raise NoNote("a sign is no figure of the base")
    return figure
