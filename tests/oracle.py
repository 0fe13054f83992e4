"""What the tests hold the program against: worths by fractions, the rest by the document's words."""

from fractions import Fraction
from itertools import product
from math import gcd

LIMIT = 10 ** 12
SIGNS = "0123456789abcdefghijklmnopqrstuvwxyz"


def number(base, figures):
    return sum(figure * base ** k for k, figure in enumerate(reversed(figures)))


def exact_worth(base, writing):
    whole, ahead, ring = writing
    result = whole + Fraction(number(base, ahead), base ** len(ahead))
    if ring:
        result += Fraction(number(base, ring), base ** len(ahead) * (base ** len(ring) - 1))
    return result


def plain_by_words(base, writing):
    ahead, ring = writing[1], writing[2]
    if not ring:
        return not (ahead and ahead[-1] == 0)
    if set(ring) == {0} or set(ring) == {base - 1}:
        return False
    for times in range(2, len(ring) + 1):
        if ring == ring[:len(ring) // times] * times:
            return False
    return not (ahead and ahead[-1] == ring[-1])


def lengths_by_words(base, bottom):
    ahead = 0
    while gcd(bottom // gcd(bottom, base ** ahead), base) != 1:
        ahead += 1
    left = bottom // gcd(bottom, base ** ahead)
    if left == 1:
        return ahead, 0
    ring = 1
    while pow(base, ring, left) != 1:
        ring += 1
    return ahead, ring


def figure_by_division(base, top, bottom, place):
    return top % bottom * pow(base, place, bottom) % bottom * base // bottom


def tops_in_lowest_terms(bottom):
    return [top for top in range(bottom) if gcd(top, bottom) == 1]


def primes(most):
    return [n for n in range(2, most + 1) if all(n % k for k in range(2, int(n ** 0.5) + 1))]


def note_by_words(base, writing):
    whole, ahead, ring = writing
    text = ""
    while whole or not text:
        text = SIGNS[whole % base] + text
        whole //= base
    if ahead or ring:
        text += "." + "".join(SIGNS[figure] for figure in ahead)
    if ring:
        text += "(" + "".join(SIGNS[figure] for figure in ring) + ")"
    return text


def spread_figures(base, count, seed):
    figures = []
    for _ in range(count):
        seed = (seed * 1103515245 + 12345) % 2 ** 31
        figures.append((seed >> 16) % base)
    return figures


def small_writings(base, wholes, most_ahead, most_ring):
    for whole in wholes:
        for a in range(most_ahead + 1):
            for r in range(most_ring + 1):
                for figures in product(range(base), repeat=a + r):
                    yield whole, list(figures[:a]), list(figures[a:])


# Base and writing: with and without figures ahead and ring, plain and not.
SOME_WRITINGS = [
    (10, (0, [], [])),
    (10, (3, [], [0])),
    (10, (3, [], [9])),
    (10, (0, [1], [6])),
    (10, (0, [1, 6], [6, 6])),
    (10, (7, [2, 5], [])),
    (10, (7, [2, 5, 0, 0], [])),
    (10, (7, [9, 9], [9, 9])),
    (10, (7, [4, 9], [9])),
    (10, (0, [], [1, 4, 2, 8, 5, 7])),
    (10, (0, [5, 7], [1, 4, 2, 8, 5, 7, 1, 4, 2, 8, 5, 7])),
    (2, (1, [0, 1], [0, 1])),
    (2, (1, [0], [1, 1])),
    (36, (35, [35, 0], [0, 35])),
    (36, (LIMIT, [35], [35])),
]
