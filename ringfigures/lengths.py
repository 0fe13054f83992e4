"""How many figures a fraction has, which one stands at a place, and which rings fold."""

from ringfigures.checks import check_base, check_bottom, check_figures, check_fraction
from ringfigures.writing import common_measure


def lengths(base, bottom):
    check_base(base)
    check_bottom(bottom)
    ahead = 0
    left = bottom
    common = common_measure(left, base)
    # One more figure ahead lets the base take away, once more, all that it has in common with what is left.
    while common > 1:
        ahead = ahead + 1
        left = left // common
        common = common_measure(left, base)
    return (ahead, ring_length(base, left))


def ring_length(base, left):
    if left == 1:
        return 0
    length = 1
    rest = base % left
    # What is left goes into a power of the base less one just where that power leaves the rest one.
    while rest != 1:
        length = length + 1
        rest = rest * base % left
    return length


def figure_at(base, top, bottom, place):
    check_base(base)
    check_fraction(top, bottom)
    # The figure hangs on the rest at its place alone, so the figures ahead of it need not be told.
    rest = top * power_rest(base, place, bottom) % bottom
    return rest * base // bottom


def power_rest(base, count, bottom):
    result = 1
    square = base
    # Squaring keeps the steps as few as the count has binary figures; a place may be near 10 ** 40.
    while count > 0:
        if count % 2 == 1:
            result = result * square % bottom
        square = square * square % bottom
        count = count // 2
    return result


def folds(base, ring):
    check_base(base)
    check_figures(base, ring)
    if ring == [] or len(ring) % 2 == 1:
        return False
    half = len(ring) // 2
    for place in range(half):
        if ring[place] + ring[half + place] != base - 1:
            return False
    return True
