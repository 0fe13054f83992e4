"""Fractions to plain writings, and writings to their worth and their plain writing."""

from ringfigures.checks import check_base, check_fraction, check_writing


def written(base, top, bottom):
    check_base(base)
    check_fraction(top, bottom)
    return divided_out(base, top, bottom)


def divided_out(base, top, bottom):
    figures = []
    place_of_rest = {}
    rest = top % bottom
    # All figures to come hang on the rest alone: a rest met again is where the ring closes.
    while rest != 0 and rest not in place_of_rest:
        place_of_rest[rest] = len(figures)
        figures.append(rest * base // bottom)
        rest = rest * base % bottom
    if rest == 0:
        return (top // bottom, figures, [])
    start = place_of_rest[rest]
    return (top // bottom, figures[:start], figures[start:])


def worth(base, writing):
    check_base(base)
    check_writing(base, writing)
    ahead = writing[1]
    ring = writing[2]
    top = number_of(base, ahead)
    bottom = power(base, len(ahead))
    if ring != []:
        # A ring for ever is worth its number by one less than the power that a round of it spans.
        round_bottom = power(base, len(ring)) - 1
        top = top * round_bottom + number_of(base, ring)
        bottom = bottom * round_bottom
    common = common_measure(top, bottom)
    # Whole numbers leave the common measure as it is, so the whole comes in behind the shortening.
    return (writing[0] * (bottom // common) + top // common, bottom // common)


def plain(base, writing):
    check_base(base)
    check_writing(base, writing)
    whole = writing[0]
    ahead = writing[1]
    ring = shortest_ring(writing[2])
    if ring == [base - 1]:
        return rounded_up(base, whole, ahead)
    if ring == [] or ring == [0]:
        return (whole, without_last(ahead, 0), [])
    return drawn_into_ring(whole, ahead, ring)


def is_plain(base, writing):
    check_base(base)
    check_writing(base, writing)
    ahead = writing[1]
    ring = writing[2]
    if ring == []:
        return ahead == [] or ahead[-1] != 0
    if shortest_ring(ring) != ring or ring == [0] or ring == [base - 1]:
        return False
    return ahead == [] or ahead[-1] != ring[-1]


def number_of(base, figures):
    number = 0
    for figure in figures:
        number = number * base + figure
    return number


def power(base, count):
    result = 1
    for step in range(count):
        result = result * base
    return result


def common_measure(one, other):
    while other != 0:
        rest = one % other
        one = other
        other = rest
    return one


def shortest_ring(ring):
    for length in range(1, len(ring)):
        if len(ring) % length == 0 and ring[:length] * (len(ring) // length) == ring:
            return ring[:length]
    return list(ring)


def without_last(figures, figure):
    kept = len(figures)
    while kept > 0 and figures[kept - 1] == figure:
        kept = kept - 1
    return figures[:kept]


def rounded_up(base, whole, ahead):
    # One more makes noughts of the greatest figures at the end, and a plain writing has none there.
    figures = without_last(ahead, base - 1)
    if figures == []:
        return (whole + 1, [], [])
    return (whole, figures[:-1] + [figures[-1] + 1], [])


def drawn_into_ring(whole, ahead, ring):
    length = len(ring)
    turns = 0
    while turns < len(ahead) and ahead[-1 - turns] == ring[-1 - (turns % length)]:
        turns = turns + 1
    cut = length - turns % length
    return (whole, ahead[:len(ahead) - turns], ring[cut:] + ring[:cut])
