import unittest
from itertools import product
from math import comb, factorial
from random import Random

from lotthrows.errors import BadDeck, BadNumber, BadThrow, TooMany
from lotthrows.outcomes import all_in, can_come, went_in
from lotthrows.throws import deck_after, lot_of, size_of, still, turning
from helpers import NO_DECKS, NO_NUMBERS, NO_THROWS, SINGLES, SORT, THROWS, Case, drawn_throw

KEPT_APART = (((0,), 1), ((1,), 1))
TURNED_APART = (((0,), -1), ((1,), -1))
THREE_OF_EIGHT = (((0, 3, 5), -1), ((1, 7), 1), ((2, 4, 6), -1))
SIXTY = (0,) * 30 + (1,) * 30


def came_from(throw, length):
    """For each deck of a number of cards that comes out of a throw, the decks that come to it, ascending."""
    found = {}
    for deck in product(range(size_of(throw)), repeat=length):
        found.setdefault(deck_after(throw, deck), []).append(deck)
    return found


class OutcomesTest(Case):
    def test_the_examples(self):
        self.told([True, False, 3, ((1, 2, 0), (2, 0, 1), (2, 1, 0)), 0],
                  [can_come(SORT, (0, 2, 1)), can_come(SORT, (0, 1, 2)), went_in(SORT, (2, 0, 1)),
                   all_in(SORT, (2, 0, 1)), went_in(SORT, (0, 1, 2))])

    def test_all_small_decks_against_throwing_all_decks(self):
        for size, longest in ((1, 5), (2, 5), (3, 4)):
            for throw in THROWS[size]:
                for length in range(longest + 1):
                    found = came_from(throw, length)
                    for deck in product(range(size), repeat=length):
                        decks = tuple(found.get(deck, ()))
                        self.told(decks != (), can_come(throw, deck))
                        self.told(len(decks), went_in(throw, deck))
                        self.told(decks, all_in(throw, deck))
                        self.told(decks, all_in(throw, deck, most=len(decks)))

    def test_the_empty_deck(self):
        for throw in (still(1), turning(8), SINGLES, SORT):
            self.told([True, 1, ((),), ((),)], [can_come(throw, ()), went_in(throw, ()), all_in(throw, ()),
                                                all_in(throw, (), most=1)])
            self.too_many(0, throw, (), most=0)

    def test_a_deck_that_cannot_come(self):
        for throw, deck in ((SORT, (1, 0)), (SINGLES, (0, 1, 0)), (SINGLES[::-1], (0, 7)), (KEPT_APART, SIXTY[::-1])):
            self.told([False, 0, (), (), ()], [can_come(throw, deck), went_in(throw, deck), all_in(throw, deck),
                                               all_in(throw, deck, most=0), all_in(throw, deck, most=10 ** 99)])

    def test_one_lot(self):
        deck = (2, 0, 1, 1, 0, 2)
        self.told([1, (deck,), 1, (deck[::-1],)], [went_in(still(3), deck), all_in(still(3), deck, most=1),
                                                   went_in(turning(3), deck), all_in(turning(3), deck, most=1)])

    def test_larger_sizes(self):
        draw = Random(9)
        for size in range(4, 9):
            for _ in range(10):
                throw = drawn_throw(size, draw)
                went = tuple(draw.choices(range(size), k=6))
                deck = deck_after(throw, went)
                decks = all_in(throw, deck, most=720)
                self.assertIn(went, decks)
                self.told(went_in(throw, deck), len(decks))
                self.told(sorted(set(decks)), list(decks))
                self.told({deck}, {deck_after(throw, other) for other in decks})

    def test_sixty_cards(self):
        for throw in (KEPT_APART, TURNED_APART):
            self.told([True, comb(60, 30)], [can_come(throw, SIXTY), went_in(throw, SIXTY)])
            self.too_many(256, throw, SIXTY)
            self.too_many(comb(60, 30) - 1, throw, SIXTY, most=comb(60, 30) - 1)
        sixty = tuple(sorted((tuple(range(8)) * 8)[:60]))
        self.told(factorial(60) // (factorial(8) ** 4 * factorial(7) ** 4), went_in(SINGLES, sixty))
        cards = (0, 3, 5, 5) * 5 + (7, 1) * 10 + (6, 2, 4, 4) * 5
        self.told(factorial(60) // factorial(20) ** 3, went_in(THREE_OF_EIGHT, cards))
        last = (0,) * 59 + (1,)
        decks = all_in(TURNED_APART, last)
        self.told([60, last, (1,) + (0,) * 59], [len(decks), decks[0], decks[-1]])

    def too_many(self, number, throw, deck, **most):
        caught = self.raised(TooMany, all_in, throw, deck, **most)
        self.told(number, caught.most)

    def test_exactly_as_many_as_most_and_one_more(self):
        deck = (0, 0, 1, 1)
        decks = ((0, 0, 1, 1), (0, 1, 0, 1), (0, 1, 1, 0), (1, 0, 0, 1), (1, 0, 1, 0), (1, 1, 0, 0))
        for throw in (KEPT_APART, TURNED_APART):
            for most in (6, 7, 256, 10 ** 99):
                self.told(decks, all_in(throw, deck, most=most))
            for most in range(6):
                self.too_many(most, throw, deck, most=most)

    def test_it_is_256_where_most_is_not_told(self):
        # No deck of at most sixty cards comes of just 256 or 257 decks.
        below, above = (0,) * 21 + (1,) * 2, (0,) * 22 + (1,) * 2
        self.told([253, 276], [went_in(KEPT_APART, below), went_in(KEPT_APART, above)])
        self.told(253, len(all_in(KEPT_APART, below)))
        self.too_many(256, KEPT_APART, above)
        self.too_many(252, KEPT_APART, below, most=252)
        self.told(276, len(all_in(KEPT_APART, above, most=276)))

    def test_most_is_passed_by_name_alone(self):
        with self.assertRaises(TypeError):
            all_in(SORT, (), 1)

    def test_any_value_that_is_no_throw(self):
        for throw in NO_THROWS:
            for deck in ((), None):
                self.refused(BadThrow, throw, can_come, throw, deck)
                self.refused(BadThrow, throw, went_in, throw, deck)
                self.refused(BadThrow, throw, all_in, throw, deck)
                self.refused(BadThrow, throw, all_in, throw, deck, most=None)

    def test_any_value_that_is_no_deck_of_the_size(self):
        for throw, deck in [(SINGLES, deck) for deck in NO_DECKS] + [(SORT, (3,)), (SORT, (0, 3)), (still(1), (0, 1))]:
            self.refused(BadDeck, deck, can_come, throw, deck)
            self.refused(BadDeck, deck, went_in, throw, deck)
            self.refused(BadDeck, deck, all_in, throw, deck)
            self.refused(BadDeck, deck, all_in, throw, deck, most=None)

    def test_any_value_as_most_that_is_no_number(self):
        for most in NO_NUMBERS:
            self.refused(BadNumber, most, all_in, SORT, (0, 2, 1), most=most)
            self.refused(BadNumber, most, all_in, SORT, (1, 0), most=most)
            self.refused(BadNumber, most, all_in, SORT, (), most=most)

    def test_lots_lie_one_by_one(self):
        for throw in THROWS[3]:
            for deck in product(range(3), repeat=4):
                lots = [lot_of(throw, kind) for kind in deck]
                self.told(lots == sorted(lots), can_come(throw, deck))


if __name__ == "__main__":
    unittest.main()
