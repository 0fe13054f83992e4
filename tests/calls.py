"""The functions that take a writing, each of them called with a base and a writing alone."""

from ringfigures.notes import shown
from ringfigures.reckoning import added, times
from ringfigures.writing import is_plain, plain, worth

RECKONING_WITH_WRITINGS = [
    lambda base, writing: added(base, writing, (0, [], [])),
    lambda base, writing: added(base, (0, [], []), writing),
    lambda base, writing: added(base, writing, writing),
    lambda base, writing: times(base, writing, 0),
    lambda base, writing: times(base, writing, 1),
    lambda base, writing: times(base, writing, 3),
]
OF_WRITINGS = [worth, plain, is_plain, shown] + RECKONING_WITH_WRITINGS
