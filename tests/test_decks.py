import unittest
from itertools import permutations, product

from lotthrows.decks import (
    counts_of, deck_text, is_deck, is_order, laid, opposite, read_deck, together, undone_order,
)
from lotthrows.errors import BadDeck, BadNumber, BadOrder, BadSize
from helpers import INTEGERS, NO_DECKS, NO_NUMBERS, NO_SIZES, NOTHING_VALID, STRINGS, Case

NO_ORDERS = NOTHING_VALID + STRINGS + INTEGERS + (
    (1,), (0, 0), (1, 2), (0, 2), (0, 1, 1), (0, 1, 3), (-1, 0), (0, 1, 2, True), (True, False), (False,),
    (0, True), [1, 0], tuple(range(1, 60)), tuple(range(59)) + (58,),
)
SIXTY = tuple(range(8)) * 7 + (0, 1, 2, 3)
EXACTLY_SIXTY = tuple(range(60))


class IsDeckTest(Case):
    def test_the_example(self):
        self.told([True, False, True], [is_deck(2, (0, 1, 1)), is_deck(2, (0, 2)), is_deck(1, ())])

    def test_kinds_of_every_size(self):
        for size in range(1, 9):
            self.told(True, is_deck(size, ()))
            self.told(True, is_deck(size, tuple(range(size))))
            self.told(True, is_deck(size, (size - 1, 0)))
            self.told(False, is_deck(size, (size,)))
            self.told(False, is_deck(size, (0, size)))
            self.told(False, is_deck(size, (-1,)))

    def test_sixty_cards_and_one_more(self):
        for size in (1, 8):
            self.told(True, is_deck(size, (0,) * 60))
            self.told(False, is_deck(size, (0,) * 61))
            self.told(False, is_deck(size, (0,) * 2000))
        self.told(True, is_deck(8, SIXTY))

    def test_bools_are_no_kinds_and_lists_are_no_tuples(self):
        for thing in ((True,), (False,), (0, True), [], [0], [0, 1], {}, {0: 1}, "01", ((0,),), ((),), None, 0):
            self.told(False, is_deck(2, thing))

    def test_any_value_that_is_none(self):
        for thing in NO_DECKS:
            self.told(False, is_deck(8, thing))

    def test_the_size_is_checked_first(self):
        for size in NO_SIZES:
            self.refused(BadSize, size, is_deck, size, ())
            self.refused(BadSize, size, is_deck, size, None)


class IsOrderTest(Case):
    def test_the_example(self):
        self.told([True, False], [is_order(3, (2, 0, 1)), is_order(2, (0, 2))])

    def test_all_tuples_of_small_numbers(self):
        for n in range(4):
            orders = list(permutations(range(n)))
            for length in range(5):
                for thing in product(range(-1, 4), repeat=length):
                    self.told(thing in orders, is_order(n, thing))

    def test_no_cards_and_sixty(self):
        self.told(True, is_order(0, ()))
        self.told(False, is_order(0, (0,)))
        self.told(False, is_order(1, ()))
        self.told(True, is_order(60, EXACTLY_SIXTY))
        self.told(True, is_order(60, EXACTLY_SIXTY[::-1]))
        self.told(False, is_order(59, EXACTLY_SIXTY))
        self.told(False, is_order(61, EXACTLY_SIXTY))

    def test_an_order_of_a_told_number_of_cards_has_no_limit(self):
        self.told(True, is_order(61, tuple(range(61))))
        self.told(True, is_order(1500, tuple(range(1500))[::-1]))

    def test_any_value_that_is_none(self):
        for n in (0, 1, 2, 3, 4, 60, 10 ** 99):
            for thing in NO_ORDERS:
                if n != 0 or thing != ():
                    self.told(False, is_order(n, thing))

    def test_bools_are_no_numbers_of_cards(self):
        self.told(False, is_order(2, (False, True)))
        self.told(False, is_order(2, (0, True)))
        self.told(False, is_order(1, (False,)))

    def test_the_number_is_checked_first(self):
        for n in NO_NUMBERS:
            self.refused(BadNumber, n, is_order, n, ())
            self.refused(BadNumber, n, is_order, n, None)


class LaidTest(Case):
    def test_the_example(self):
        self.told((0, 2, 0, 1, 1), laid((1, 0, 2, 1, 0), (1, 2, 4, 3, 0)))

    def test_no_cards_one_and_sixty(self):
        self.told((), laid((), ()))
        self.told((7,), laid((7,), (0,)))
        self.told(SIXTY[::-1], laid(SIXTY, EXACTLY_SIXTY[::-1]))
        self.told(SIXTY, laid(SIXTY, EXACTLY_SIXTY))

    def test_each_position_has_the_kind_of_the_card_there(self):
        deck = (3, 0, 7, 5)
        for order in permutations(range(4)):
            self.told(tuple(deck[order[at]] for at in range(4)), laid(deck, order))

    def test_the_deck_is_one_of_the_size_eight(self):
        for deck in NO_DECKS:
            self.refused(BadDeck, deck, laid, deck, (0,))

    def test_the_order_is_one_of_its_cards(self):
        for order in NO_ORDERS:
            self.refused(BadOrder, order, laid, (0, 0, 0, 0), order)
        for order in ((), (0,), (0, 1), (0, 1, 2, 3)):
            self.refused(BadOrder, order, laid, (0, 0, 0), order)
        self.refused(BadOrder, EXACTLY_SIXTY, laid, (), EXACTLY_SIXTY)

    def test_the_deck_is_checked_first(self):
        deck, order = [0], [0]
        self.refused(BadDeck, deck, laid, deck, order)


class TogetherTest(Case):
    def test_the_example(self):
        self.told((0, 2, 1), together((1, 2, 0), (2, 1, 0)))

    def test_no_cards_and_sixty(self):
        self.told((), together((), ()))
        self.told((0,), together((0,), (0,)))
        self.told(EXACTLY_SIXTY, together(EXACTLY_SIXTY[::-1], EXACTLY_SIXTY[::-1]))

    def test_it_lays_as_one_and_then_other(self):
        deck = (4, 1, 6, 2)
        for one in permutations(range(4)):
            for other in permutations(range(4)):
                self.told(laid(laid(deck, one), other), laid(deck, together(one, other)))

    def test_the_first_one_is_an_order(self):
        for one in NO_ORDERS + (tuple(range(61)), tuple(range(2000))):
            self.refused(BadOrder, one, together, one, (0,))
            self.refused(BadOrder, one, together, one, one)
            self.refused(BadOrder, one, together, one, None)

    def test_the_second_one_is_an_order_of_as_many(self):
        for other in NO_ORDERS:
            self.refused(BadOrder, other, together, (1, 2, 0), other)
        for other in ((), (0,), (1, 0), (0, 1, 2, 3), EXACTLY_SIXTY, tuple(range(61))):
            self.refused(BadOrder, other, together, (1, 2, 0), other)
        longer = tuple(range(61))
        self.refused(BadOrder, longer, together, EXACTLY_SIXTY, longer)


class UndoneAndOppositeTest(Case):
    def test_the_examples(self):
        self.told([(2, 0, 1), (0, 2, 1)], [undone_order((1, 2, 0)), opposite((1, 2, 0))])

    def test_no_cards_and_sixty(self):
        turned = EXACTLY_SIXTY[::-1]
        self.told([(), ()], [undone_order(()), opposite(())])
        self.told([(0,), (0,)], [undone_order((0,)), opposite((0,))])
        self.told([turned, EXACTLY_SIXTY], [undone_order(turned), opposite(turned)])
        shifted = EXACTLY_SIXTY[1:] + (0,)
        self.told((59,) + EXACTLY_SIXTY[:-1], undone_order(shifted))

    def test_undone_gives_the_cards_as_they_lay_in_either_row(self):
        for n in range(5):
            for order in permutations(range(n)):
                self.told(tuple(range(n)), together(order, undone_order(order)))
                self.told(tuple(range(n)), together(undone_order(order), order))

    def test_opposite_has_the_items_in_the_opposite_row(self):
        for order in permutations(range(4)):
            self.told(tuple(reversed(order)), opposite(order))

    def test_any_value_that_is_no_order(self):
        for order in NO_ORDERS + (tuple(range(61)), tuple(range(2000))):
            self.refused(BadOrder, order, undone_order, order)
            self.refused(BadOrder, order, opposite, order)


class CountsTest(Case):
    def test_the_example(self):
        self.told((2, 2, 1), counts_of(3, (1, 0, 2, 1, 0)))

    def test_every_size(self):
        for size in range(1, 9):
            self.told((0,) * size, counts_of(size, ()))
            self.told(tuple(kind + 1 for kind in range(size)),
                      counts_of(size, tuple(kind for kind in range(size) for _ in range(kind + 1))))

    def test_sixty_cards(self):
        self.told((60,), counts_of(1, (0,) * 60))
        self.told((8, 8, 8, 8, 7, 7, 7, 7), counts_of(8, SIXTY))

    def test_the_size_is_checked_first(self):
        for size in NO_SIZES:
            self.refused(BadSize, size, counts_of, size, ())
            self.refused(BadSize, size, counts_of, size, None)

    def test_the_deck_is_one_of_the_size(self):
        for deck in NO_DECKS:
            self.refused(BadDeck, deck, counts_of, 8, deck)
        for size in range(1, 8):
            deck = (0, size)
            self.refused(BadDeck, deck, counts_of, size, deck)


class TextTest(Case):
    def test_the_examples(self):
        self.told(["102", ()], [deck_text((1, 0, 2)), read_deck("-")])

    def test_the_empty_deck_and_sixty_cards(self):
        self.told("-", deck_text(()))
        self.told("01234567" * 7 + "0123", deck_text(SIXTY))
        self.told(SIXTY, read_deck("01234567" * 7 + "0123"))
        self.told((0,) * 60, read_deck("0" * 60))

    def test_there_and_back(self):
        for length in range(4):
            for deck in product((0, 1, 7), repeat=length):
                self.told(deck, read_deck(deck_text(deck)))
        for kind in range(8):
            self.told(str(kind), deck_text((kind,)))
            self.told((kind,), read_deck(str(kind)))

    def test_any_value_that_is_no_deck(self):
        for deck in NO_DECKS:
            self.refused(BadDeck, deck, deck_text, deck)

    def test_any_value_that_is_no_string(self):
        for text in NOTHING_VALID + INTEGERS + ((), (0,), ("0", "1"), b"01"):
            self.refused_text(0, read_deck, text)

    def test_strings_that_are_no_texts(self):
        for text in ("", " ", "\n", "8", "9", "08", "0 1", " 01", "01 ", "01\n", "\n01", "-0", "0-", "--", "- ", " -",
                     "-\n", "+1", "-1", "0x1", "0_1", "1.0", "a", "0,1", "(0, 1)", "0" * 61, "0" * 2000, "~" * 2000,
                     "\t01", "0\r", "()"):
            self.refused_text(1, read_deck, text)

    def test_other_digits_and_blanks_than_those_of_ascii(self):
        for sign in ("\u0661", "\u00b2", "\uff11", "\u0967", "\U0001d7d9", "\u2460", "\u00a0", "\u2003", "\u3000",
                     "\x1f", "\x0b", "\u2212", "\uff0d", "\u2010", "\x00"):
            for text in (sign, "01" + sign, sign + "01", "0" + sign + "1"):
                self.refused_text(1, read_deck, text)

    def test_each_text_with_one_sign_changed_is_another_text_or_none(self):
        for deck in ((), (0,), (1, 0, 2), (7, 7)):
            text = deck_text(deck)
            for at in range(len(text) + 1):
                for sign in ("", " ", "\n", "-", "+", "0", "7", "8", "a", "\u0660"):
                    for changed in (text[:at] + sign + text[at:], text[:at] + sign + text[at + 1:]):
                        right = changed == "-" or changed != "" and all(one in "01234567" for one in changed)
                        if right:
                            self.told(changed, deck_text(read_deck(changed)))
                        else:
                            self.refused_text(1, read_deck, changed)


if __name__ == "__main__":
    unittest.main()
