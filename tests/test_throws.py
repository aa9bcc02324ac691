import unittest
from itertools import product

from lotthrows.decks import laid
from lotthrows.errors import BadDeck, BadKind, BadSize, BadThrow
from lotthrows.throws import (
    deck_after, is_throw, lot_of, order_after, read_throw, size_of, still, throw_text, turning, way_of,
)
from helpers import INTEGERS, NO_SIZES, NO_THROWS, NOTHING_VALID, SINGLES, SORT, STRINGS, THROWS, Case

SOME_THROWS = (still(1), turning(1), still(8), turning(8), SINGLES, SORT, SINGLES[::-1])


class IsThrowTest(Case):
    def test_the_example(self):
        self.told([True, False], [is_throw(SORT), is_throw((((0, 1), 1), ((1,), 1)))])

    def test_all_throws_of_small_sizes(self):
        self.told([2, 10, 74], [len(THROWS[size]) for size in (1, 2, 3)])
        for size in (1, 2, 3):
            for throw in THROWS[size]:
                self.told(True, is_throw(throw))

    def test_sizes_one_and_eight(self):
        for throw in SOME_THROWS:
            self.told(True, is_throw(throw))

    def test_all_pairs_of_lots_of_few_kinds(self):
        lots = [lot for length in range(4) for lot in product(range(3), repeat=length)]
        for signs in ((1,), (-1, 1)):
            for chosen in product(lots, repeat=len(signs)):
                throw = tuple(zip(chosen, signs))
                right = any(throw in THROWS[size] for size in THROWS)
                self.told(right, is_throw(throw))

    def test_any_value_that_is_none(self):
        for thing in NO_THROWS:
            self.told(False, is_throw(thing))


class SizeStillTurningTest(Case):
    def test_the_examples(self):
        self.told([3, (((0, 1), 1),), (((0,), -1),)], [size_of(SORT), still(2), turning(1)])

    def test_every_size(self):
        for size in range(1, 9):
            kinds = tuple(range(size))
            self.told(((kinds, 1),), still(size))
            self.told(((kinds, -1),), turning(size))
            self.told([size, size], [size_of(still(size)), size_of(turning(size))])
            self.told(size, size_of(SINGLES[:size]))

    def test_sizes_of_all_throws_of_small_sizes(self):
        for size in THROWS:
            for throw in THROWS[size]:
                self.told(size, size_of(throw))

    def test_any_value_that_is_no_size(self):
        for size in NO_SIZES:
            self.refused(BadSize, size, still, size)
            self.refused(BadSize, size, turning, size)

    def test_any_value_that_is_no_throw(self):
        for throw in NO_THROWS:
            self.refused(BadThrow, throw, size_of, throw)


class LotTest(Case):
    def test_the_example(self):
        self.told(1, lot_of(SORT, 1))

    def test_each_kind_stands_in_its_lot(self):
        for throw in THROWS[3]:
            for kind in range(3):
                self.told([kind in lot for lot, _ in throw].index(True), lot_of(throw, kind))

    def test_one_lot_and_eight(self):
        for kind in range(8):
            self.told([0, 0], [lot_of(still(8), kind), lot_of(turning(8), kind)])
            self.told([kind, 7 - kind], [lot_of(SINGLES, kind), lot_of(SINGLES[::-1], kind)])

    def test_any_value_that_is_no_throw(self):
        for throw in NO_THROWS:
            self.refused(BadThrow, throw, lot_of, throw, 0)
            self.refused(BadThrow, throw, lot_of, throw, None)

    def test_any_value_that_is_no_kind(self):
        for throw in SOME_THROWS:
            for kind in NOTHING_VALID + STRINGS + ((), (0,), -1, size_of(throw), 10 ** 99, -10 ** 99):
                self.refused(BadKind, kind, lot_of, throw, kind)


class WayTest(Case):
    def test_the_examples(self):
        self.told(["ahead", "behind", "kept", "turned"],
                  [way_of(SORT, 0, 1), way_of(SORT, 1, 2), way_of(SORT, 0, 2), way_of(SORT, 1, 1)])

    def test_each_way_of_small_sizes(self):
        for size in THROWS:
            for throw in THROWS[size]:
                for a, b in product(range(size), repeat=2):
                    at_a, at_b = lot_of(throw, a), lot_of(throw, b)
                    if at_a == at_b:
                        way = {1: "kept", -1: "turned"}[throw[at_a][1]]
                    else:
                        way = "ahead" if at_a < at_b else "behind"
                    self.told(way, way_of(throw, a, b))

    def test_one_lot_and_eight(self):
        for a, b in product(range(8), repeat=2):
            self.told(["kept", "turned"], [way_of(still(8), a, b), way_of(turning(8), a, b)])
            if a != b:
                self.told("ahead" if a < b else "behind", way_of(SINGLES, a, b))

    def test_any_value_that_is_no_throw(self):
        for throw in NO_THROWS:
            self.refused(BadThrow, throw, way_of, throw, 0, 0)
            self.refused(BadThrow, throw, way_of, throw, None, None)

    def test_the_first_value_that_is_no_kind(self):
        for kind in NOTHING_VALID + STRINGS + ((), (0,), -1, 3, 10 ** 99, -10 ** 99):
            self.refused(BadKind, kind, way_of, SORT, kind, 0)
            self.refused(BadKind, kind, way_of, SORT, 0, kind)
            self.refused(BadKind, kind, way_of, SORT, kind, [3])


class AfterTest(Case):
    def test_the_examples(self):
        self.told([(1, 2, 4, 3, 0), (0, 2, 0, 1, 1)],
                  [order_after(SORT, (1, 0, 2, 1, 0)), deck_after(SORT, (1, 0, 2, 1, 0))])

    def test_each_two_cards_lie_as_their_kinds_are_set(self):
        for size in THROWS:
            for throw in THROWS[size]:
                for deck in product(range(size), repeat=4):
                    order = order_after(throw, deck)
                    self.told(list(range(4)), sorted(order))
                    place = {card: at for at, card in enumerate(order)}
                    for low in range(4):
                        for high in range(low + 1, 4):
                            way = way_of(throw, deck[low], deck[high])
                            self.told(way in ("ahead", "kept"), place[low] < place[high])

    def test_the_deck_after_is_laid_by_the_order_after(self):
        for throw in THROWS[3]:
            for deck in product(range(3), repeat=4):
                self.told(laid(deck, order_after(throw, deck)), deck_after(throw, deck))

    def test_no_cards_and_sixty(self):
        sixty = tuple(range(8)) * 7 + (0, 1, 2, 3)
        cards = tuple(range(60))
        for throw in SOME_THROWS:
            self.told([(), ()], [order_after(throw, ()), deck_after(throw, ())])
        self.told([cards, sixty], [order_after(still(8), sixty), deck_after(still(8), sixty)])
        self.told([cards[::-1], sixty[::-1]], [order_after(turning(8), sixty), deck_after(turning(8), sixty)])
        self.told(cards[::-1], order_after(turning(1), (0,) * 60))
        self.told(tuple(sorted(sixty)), deck_after(SINGLES, sixty))
        self.told((0, 8, 16, 24, 32, 40, 48, 56, 57, 49, 41, 33, 25, 17, 9, 1), order_after(SINGLES, sixty)[:16])

    def test_signs_of_lots_of_one_kind_count(self):
        self.told([(0, 1), (1, 0)], [order_after(still(1), (0, 0)), order_after(turning(1), (0, 0))])

    def test_any_value_that_is_no_throw(self):
        for throw in NO_THROWS:
            for function in (order_after, deck_after):
                self.refused(BadThrow, throw, function, throw, ())
                self.refused(BadThrow, throw, function, throw, None)

    def test_any_value_that_is_no_deck_of_the_size(self):
        decks = NOTHING_VALID + STRINGS + INTEGERS + ((0,) * 61, [0, 1])
        for throw in SOME_THROWS:
            for deck in decks + ((size_of(throw),), (0, size_of(throw))):
                for function in (order_after, deck_after):
                    self.refused(BadDeck, deck, function, throw, deck)


class TextTest(Case):
    def test_the_examples(self):
        self.told(["02+ 1-", (((1,), -1), ((0,), 1))], [throw_text(SORT), read_throw("1- 0+")])

    def test_one_lot_and_eight(self):
        self.told(["0+", "0-"], [throw_text(still(1)), throw_text(turning(1))])
        self.told(["01234567+", "01234567-"], [throw_text(still(8)), throw_text(turning(8))])
        self.told("0+ 1- 2+ 3- 4+ 5- 6+ 7-", throw_text(SINGLES))
        self.told("7- 6+ 5- 4+ 3- 2+ 1- 0+", throw_text(SINGLES[::-1]))

    def test_there_and_back(self):
        for throw in SOME_THROWS + tuple(throw for size in THROWS for throw in THROWS[size]):
            self.told(throw, read_throw(throw_text(throw)))

    def test_all_short_strings(self):
        texts = {throw_text(throw): throw for size in (1, 2) for throw in THROWS[size]}
        for length in range(6):
            for signs in product("01+- ", repeat=length):
                text = "".join(signs)
                if text in texts:
                    self.told(texts[text], read_throw(text))
                else:
                    self.refused_text(1, read_throw, text)

    def test_any_value_that_is_no_throw(self):
        for throw in NO_THROWS:
            self.refused(BadThrow, throw, throw_text, throw)

    def test_any_value_that_is_no_string(self):
        for text in NOTHING_VALID + INTEGERS + ((), ("0+",), SORT, b"0+"):
            self.refused_text(0, read_throw, text)

    def test_strings_that_are_no_texts(self):
        for text in ("", " ", "\n", "-", "+", "0", "01", "+0", "0 +", "0+ ", " 0+", "0+\n", "\n0+", "0+  1-", "0+1-",
                     "0+\n1-", "0+\t1-", "10+", "021+ 3-", "00+", "0+ 0+", "01+ 1-", "1+", "0+ 2+", "02+", "8+",
                     "012345678+", "01234567+ 8+", "0++", "0+-", "0--", "0+ -", "0+ +", "+ 0+", "0*", "0a+", "a+",
                     "0+,1-", "0, 1+", "0x1+", "0_1+", "0+ 1", "0 1+", "0+ 1-  ", "~" * 2000, "0" * 2000 + "+",
                     "(((0,), 1),)"):
            self.refused_text(1, read_throw, text)

    def test_other_digits_and_blanks_than_those_of_ascii(self):
        for text in ("\u0660+", "0\u0661+", "0\u00b9+", "\uff10+", "0+\u00a01-", "0+\u20031-", "0+\u30001-", "0+\x1f1-",
                     "0\u2212", "0\uff0b", "0\ufe62", "0\u200b+", "\ufeff0+", "0+\r"):
            self.refused_text(1, read_throw, text)

    def test_each_text_with_one_sign_changed_is_another_text_or_none(self):
        texts = {throw_text(throw) for size in THROWS for throw in THROWS[size]}
        for text in ("02+ 1-", "1- 0+", "0+", "012-", "2+ 1- 0+"):
            for at in range(len(text) + 1):
                for sign in ("", " ", "  ", "\n", "-", "+", "0", "1", "2", "9", "a", "\u0660", "\u00a0"):
                    for changed in (text[:at] + sign + text[at:], text[:at] + sign + text[at + 1:]):
                        if changed in texts:
                            self.told(changed, throw_text(read_throw(changed)))
                        else:
                            self.refused_text(1, read_throw, changed)


if __name__ == "__main__":
    unittest.main()
