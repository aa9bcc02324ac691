import unittest
from itertools import product
from math import comb, factorial

from lotthrows.decks import counts_of
from lotthrows.errors import BadCounts, BadNumber, BadSize, BadThrow
from lotthrows.numbers import (
    alike_number, decks_number, number_of, outcomes_number, throw_at, throws_number, throws_with,
)
from lotthrows.outcomes import can_come, went_in
from lotthrows.throws import is_throw, size_of, still, turning
from helpers import (
    INTEGERS, NO_NUMBERS, NO_SIZES, NO_THROWS, NOTHING_VALID, SINGLES, SORT, STRINGS, THROWS, Case, all_throws,
)

# The ways to part so many kinds into lots in a row, without signs, for the sizes 1 to 8.
PARTED_IN_ROWS = (1, 3, 13, 75, 541, 4683, 47293, 545835)
NO_COUNTS = NOTHING_VALID + STRINGS + (
    (), (1,) * 9, (0,) * 60, [1], [2, 1, 1], (61,), (-1,), (2, 1, 61), (2, -1, 1), (True,), (2, 1, True), (False, 1, 1),
    (2, 1, None), (2, "1", 1), (2, [1], 1), (2, (1,), 1), ((2, 1, 1),), {0: 2, 1: 1, 2: 1}, (2, 1, 10 ** 99), "211", 0,
    1, 3,
    10 ** 99, ("2", "1", "1"), (2, 1, {}), (60,) * 9,
)
# Counts, but none of three kinds.
OTHER_COUNTS = ((0,), (2, 1), (2, 1, 1, 0), (1,) * 8, (60, 60))


def ways_by_sum(kinds, lots):
    """The ways to part kinds into lots in a row, by the sum that the document tells."""
    return sum((-1) ** (lots - i) * comb(lots, i) * i ** kinds for i in range(lots + 1))


class ThrowsNumberTest(Case):
    def test_the_examples(self):
        self.told([2, 74, 730, 12, 0], [throws_number(1), throws_number(3), throws_number(4), throws_with(3, 2, 1),
                                        throws_with(2, 3, 0)])

    def test_against_all_throws(self):
        for size in range(1, 6):
            throws = THROWS[size] if size < 4 else all_throws(size)
            self.told(len(throws), throws_number(size))
            kinds = {}
            for throw in throws:
                key = len(throw), [sign for _, sign in throw].count(-1)
                kinds[key] = kinds.get(key, 0) + 1
            for lots, turned in product(range(8), repeat=2):
                self.told(kinds.get((lots, turned), 0), throws_with(size, lots, turned))

    def test_summed_over_all_lots_and_turned_ones(self):
        for size in range(1, 9):
            self.told(throws_number(size), sum(throws_with(size, lots, turned) for lots,
                                               turned in product(range(10), repeat=2)))
            self.told(PARTED_IN_ROWS[size - 1], sum(throws_with(size, lots, 0) for lots in range(10)))
            for lots, turned in product(range(10), repeat=2):
                number = ways_by_sum(size, lots) * comb(lots, turned)
                self.told(number, throws_with(size, lots, turned))

    def test_no_lots_and_more_than_there_are(self):
        for size in range(1, 9):
            self.told([0, 0, 0, 0, 0, 0], [throws_with(size, lots, turned) for lots, turned in (
                (0, 0), (0, 1), (size + 1, 0), (1, 2), (60, 60), (10 ** 99, 10 ** 99))])
            self.told([1, 1, factorial(size)], [throws_with(size, 1, 0), throws_with(size, 1, 1),
                                                throws_with(size, size, size)])

    def test_any_value_that_is_none(self):
        for size in NO_SIZES:
            self.refused(BadSize, size, throws_number, size)
            self.refused(BadSize, size, throws_with, size, 1, 1)
            self.refused(BadSize, size, throws_with, size, None, None)
        for number in NO_NUMBERS:
            self.refused(BadNumber, number, throws_with, 3, number, 1)
            self.refused(BadNumber, number, throws_with, 3, 1, number)
            self.refused(BadNumber, number, throws_with, 3, number, None)
            # A wrong number of turned ones is told even where there are too many lots.
            self.refused(BadNumber, number, throws_with, 3, 9, number)


class NumberOfTest(Case):
    def test_the_examples(self):
        self.told([(((0,), -1), ((1,), -1)), (((0,), 1),), 1],
                  [throw_at(2, 0), throw_at(1, 1), number_of((((0,), 1),))])

    def test_all_throws_of_small_sizes(self):
        for size in (1, 2, 3):
            for n, throw in enumerate(THROWS[size]):
                self.told([throw, n], [throw_at(size, n), number_of(throw)])

    def test_size_four_at_both_ends_and_between(self):
        throws = all_throws(4)
        for n in (0, 1, 2, 364, 365, 727, 728, 729):
            self.told([throws[n], n], [throw_at(4, n), number_of(throws[n])])
        for throw in (still(4), turning(4), SINGLES[:4]):
            self.told(throw, throw_at(4, number_of(throw)))

    def test_one_beyond(self):
        for size, number in ((1, 2), (2, 10), (3, 74), (4, 730)):
            self.told([True, size], [is_throw(throw_at(size, number - 1)), size_of(throw_at(size, number - 1))])
            for n in (number, number + 1, -1, 10 ** 99):
                self.refused(BadNumber, n, throw_at, size, n)

    def test_any_value_that_is_none(self):
        for size in NO_SIZES + (5, 6, 7, 8):
            self.refused(BadSize, size, throw_at, size, 0)
            self.refused(BadSize, size, throw_at, size, None)
        for n in NO_NUMBERS:
            self.refused(BadNumber, n, throw_at, 2, n)
        for throw in NO_THROWS:
            self.refused(BadThrow, throw, number_of, throw)
        for size in (5, 6, 7, 8):
            self.refused(BadSize, size_of(still(size)), number_of, still(size))
            self.told(size, self.raised(BadSize, number_of, SINGLES[:size]).thing)


class CountsTest(Case):
    def test_the_examples(self):
        self.told([12, 3, 4, 1], [decks_number((2, 1, 1)), outcomes_number(SORT, (2, 1, 1)),
                                  alike_number(SORT, (2, 1, 1)),
                                  decks_number((0, 0))])

    def test_small_counts_against_all_decks(self):
        for size, longest in ((1, 4), (2, 4), (3, 3)):
            decks = {}
            for cards in range(longest + 1):
                for deck in product(range(size), repeat=cards):
                    decks.setdefault(counts_of(size, deck), []).append(deck)
            for counts, alike in decks.items():
                self.told(len(alike), decks_number(counts))
                for throw in THROWS[size]:
                    come = [deck for deck in alike if can_come(throw, deck)]
                    self.told(len(come), outcomes_number(throw, counts))
                    self.told([alike_number(throw, counts)] * len(come), [went_in(throw, deck) for deck in come])

    def test_counts_of_zeros_and_of_a_kind_alone(self):
        for size in range(1, 9):
            for counts in ((0,) * size, (60,) + (0,) * (size - 1), (0,) * (size - 1) + (7,)):
                self.told([1, 1, 1, 1, 1], [decks_number(counts), outcomes_number(still(size), counts),
                                            alike_number(turning(size), counts),
                                            outcomes_number(SINGLES[:size], counts),
                                            alike_number(SINGLES[:size], counts)])

    def test_counts_of_sixty(self):
        for size in range(1, 9):
            counts = (60,) * size
            number = factorial(60 * size) // factorial(60) ** size
            self.told([number, number, 1, 1, number],
                      [decks_number(counts), outcomes_number(still(size), counts), alike_number(still(size), counts),
                       outcomes_number(SINGLES[:size], counts), alike_number(SINGLES[:size], counts)])
        self.told([comb(120, 60), factorial(180) // (factorial(120) * factorial(60))],
                  [outcomes_number(SORT, (60, 60, 60)), alike_number(SORT, (60, 60, 60))])

    def test_all_come_to_those_that_can_come(self):
        for throw in THROWS[3]:
            for counts in ((5, 2, 9), (1, 0, 60), (13, 13, 13)):
                self.told(decks_number(counts), outcomes_number(throw, counts) * alike_number(throw, counts))

    def test_any_value_that_is_none(self):
        for counts in NO_COUNTS:
            self.refused(BadCounts, counts, decks_number, counts)
            for function in (outcomes_number, alike_number):
                self.refused(BadCounts, counts, function, SORT, counts)
        for throw in NO_THROWS:
            for function in (outcomes_number, alike_number):
                self.refused(BadThrow, throw, function, throw, (2, 1, 1))
                self.refused(BadThrow, throw, function, throw, None)
        for counts in OTHER_COUNTS:
            self.assertGreaterEqual(decks_number(counts), 1)
            for function in (outcomes_number, alike_number):
                self.refused(BadCounts, counts, function, SORT, counts)
        for counts in INTEGERS:
            self.refused(BadCounts, counts, decks_number, counts)


if __name__ == "__main__":
    unittest.main()
