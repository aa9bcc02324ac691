"""Numbers: how many throws there are, the throw at a number, how many decks have counts and come out of a throw."""

from math import comb, factorial

from lotthrows.catalog import throws_of_size
from lotthrows.checks import MOST_KINDS, is_within, need_number, need_size
from lotthrows.decks import MOST_CARDS
from lotthrows.errors import BadCounts, BadNumber, BadSize
from lotthrows.throws import size_of

MOST_KINDS_NUMBERED = 4


def ways_to_part(size, lots):
    """Return in how many ways kinds, as many as the size tells, can be parted into lots in a row."""
    ways = [1] + [0] * lots
    for _ in range(size):
        # A further kind is put to one of the lots, or makes one at any position among those that are one fewer.
        ways = [0] + [j * (ways[j] + ways[j - 1]) for j in range(1, lots + 1)]
    return ways[lots]


def throws_number(size):
    """Return how many throws of the size there are."""
    need_size(size)
    return sum([ways_to_part(size, lots) << lots for lots in range(1, size + 1)])


def throws_with(size, lots, turned):
    """Return how many throws of the size have so many lots, and so many of these turned."""
    need_size(size)
    need_number(lots)
    need_number(turned)
    if lots > size or turned > lots:
        return 0
    return ways_to_part(size, lots) * comb(lots, turned)


def need_size_numbered(thing):
    """Raise BadSize with any value that is no size of throws that have numbers."""
    if not is_within(thing, 1, MOST_KINDS_NUMBERED):
        raise BadSize(thing)


def throw_at(size, n):
    """Return the throw of a number."""
    need_size_numbered(size)
    throws = throws_of_size(size)
    if not is_within(n, 0, len(throws) - 1):
        raise BadNumber(n)
    return throws[n]


def number_of(throw):
    """Return the number of a throw."""
    size = size_of(throw)
    need_size_numbered(size)
    return throws_of_size(size).index(throw)


def need_deck_counts(thing):
    """Raise BadCounts with any value that is no counts of a size."""
    if not isinstance(thing, tuple) or not is_within(len(thing), 1, MOST_KINDS):
        raise BadCounts(thing)
    if not all(is_within(count, 0, MOST_CARDS) for count in thing):
        raise BadCounts(thing)


def need_throw_and_counts(throw, thing):
    """Raise BadThrow, then BadCounts with any value that is no counts of the throw's size."""
    size = size_of(throw)
    need_deck_counts(thing)
    if len(thing) != size:
        raise BadCounts(thing)


def rows_of_cards(counts):
    """Return in how many rows cards can lie of which there are so many of each kind."""
    number = factorial(sum(counts))
    for count in counts:
        number //= factorial(count)
    return number


def decks_number(counts):
    """Return how many decks have the counts."""
    need_deck_counts(counts)
    return rows_of_cards(counts)


def outcomes_number(throw, counts):
    """Return how many decks with the counts can come out of a throw."""
    need_throw_and_counts(throw, counts)
    number = 1
    for lot, _ in throw:
        number *= rows_of_cards([counts[kind] for kind in lot])
    return number


def alike_number(throw, counts):
    """Return how many decks come to each deck with the counts that can come out of a throw."""
    outcomes = outcomes_number(throw, counts)
    return rows_of_cards(counts) // outcomes
