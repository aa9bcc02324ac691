import unittest
from functools import cmp_to_key
from itertools import product
from math import prod
from random import Random

from lotthrows.errors import BadCode, BadDesks, BadNumber
from lotthrows.folded import are_desks, code_at, codes_number, folded_word, is_ahead, is_code, position_of, sign_of
from helpers import INTEGERS, NOTHING_VALID, SORT, STRINGS, Case, near

ONE, PILES, PAIR = ("tray", "pile", "tray"), ("pile", "pile"), ("tray", "pile")
SIX = ("tray", "pile", "pile", "tray", "tray", "pile")
TWELVE = (SIX, SIX[::-1]) * 6
DESKS = [desk for places in (1, 2, 3) for desk in product(("tray", "pile"), repeat=places)]
ROWS = [(), *((desk,) for desk in DESKS), (SIX,), *product(DESKS, repeat=2), *product(DESKS[:6], repeat=3),
        (PAIR,) * 5, (ONE, PILES, PAIR, ("pile",), PILES[::-1]), (SIX, SIX[::-1]), (PILES, ONE, SIX)]
NO_DESKS = NOTHING_VALID + STRINGS + INTEGERS + (
    PAIR, (PAIR,) * 13, (PAIR,) * 2000, [PAIR], [], (list(PAIR),), (PAIR, ()), ((),), (PAIR, ("tray",) * 7),
    (("tray", "a"),),
    ((("tray",),),), "tray", ("tray",), ("tray", PAIR), (PAIR, None), (PAIR, "pile"), {PAIR: PAIR}, (PAIR, {}), SORT,
    (PAIR, (True,)), (PAIR, ("tray", None)), ((1, -1),), (("tray", ["pile"]),), (PAIR, 0),
)
NO_CODES = NOTHING_VALID + STRINGS + INTEGERS + (
    (), (0,), (0, 0, 0), (3, 0), (0, 2), (-1, 0), (0, -1), (True, 0), (0, False), [0, 0], (0, [0]), (0, (0,)),
    ("0", "0"),
    ("tray", "pile"), (0, None), ((0, 0),), {0: 0}, (10 ** 99, 0), "00",
)


def compared(desks):
    """What compares two codes of a row of desks, as the document tells it."""
    def compare(one, other):
        if one == other:
            return 0
        last = max(at for at in range(len(desks)) if one[at] != other[at])
        piles = sum(desks[at][one[at]] == "pile" for at in range(last + 1, len(desks)))
        return -1 if (one[last] < other[last]) == (piles % 2 == 0) else 1
    return compare


def all_codes(desks):
    """All codes of a row of desks, in their row."""
    return sorted(product(*(range(len(desk)) for desk in desks)), key=cmp_to_key(compared(desks)))


def folded(desks):
    """The folded word of a row of desks, folded desk by desk."""
    if desks == ():
        return (1,)
    word = folded(desks[:-1])
    layers = [word if place == "tray" else tuple(-sign for sign in reversed(word)) for place in desks[-1]]
    return sum(layers, ())


class DesksTest(Case):
    def test_the_example(self):
        self.told(False, are_desks((ONE, ())))

    def test_no_desk_and_twelve(self):
        for desks in ROWS + [TWELVE, (("tray",),) * 12]:
            self.told(True, are_desks(desks))
        self.told(False, are_desks(TWELVE + (PAIR,)))

    def test_any_value_that_is_none(self):
        for thing in NO_DESKS:
            self.told(False, are_desks(thing))

    def test_values_near_to_one(self):
        four = [desk for places in range(1, 5) for desk in product(("tray", "pile"), repeat=places)]
        right = {repr(desks) for length in range(3) for desks in product(four, repeat=length)}
        right |= {repr(desks) for length in range(5) for desks in product(DESKS[:6], repeat=length)}
        for desks in ((PAIR,), (PAIR, ("pile",))):
            for thing in near(desks):
                self.told(repr(thing) in right, are_desks(thing), thing)


class CodeTest(Case):
    def test_the_examples(self):
        self.told([False, 1], [is_code((ONE,), (3,)), sign_of((ONE, PILES), (1, 1))])

    def test_all_codes_of_small_rows(self):
        for desks in ROWS:
            for code in all_codes(desks):
                self.told(True, is_code(desks, code))
                piles = sum(desk[place] == "pile" for desk, place in zip(desks, code))
                self.told(1 if piles % 2 == 0 else -1, sign_of(desks, code))

    def test_all_small_tuples(self):
        for desks in ((), (PAIR,), (ONE, PILES), (("pile",), PAIR, ONE)):
            codes = all_codes(desks)
            for length in range(5):
                for thing in product(range(-1, 4), repeat=length):
                    self.told(thing in codes, is_code(desks, thing))

    def test_no_desk_and_twelve(self):
        self.told([True, False, 1], [is_code((), ()), is_code((), (0,)), sign_of((), ())])
        self.told([True, False, True], [is_code(TWELVE, (5,) * 12), is_code(TWELVE, (5,) * 11 + (6,)),
                                        is_code(TWELVE, (0,) * 12)])
        self.told([1, -1], [sign_of(TWELVE, (0,) * 12), sign_of(TWELVE, (0,) * 11 + (5,))])

    def test_any_value_that_is_none(self):
        for thing in NO_CODES:
            self.told(False, is_code((ONE, PILES), thing))
            self.refused(BadCode, thing, sign_of, (ONE, PILES), thing)
            self.refused(BadCode, thing, position_of, (ONE, PILES), thing)
            self.refused(BadCode, thing, is_ahead, (ONE, PILES), thing, (0, 0))
            self.refused(BadCode, thing, is_ahead, (ONE, PILES), thing, None)
            self.refused(BadCode, thing, is_ahead, (ONE, PILES), (0, 0), thing)

    def test_values_near_to_one(self):
        desks = (ONE, PILES)
        right = {repr(code) for code in all_codes(desks)}
        for code in all_codes(desks):
            for thing in near(code):
                self.told(repr(thing) in right, is_code(desks, thing), thing)

    def test_any_value_that_is_no_row_of_desks(self):
        for desks in NO_DESKS:
            for function in (is_code, sign_of, position_of, code_at):
                self.refused(BadDesks, desks, function, desks, ())
                self.refused(BadDesks, desks, function, desks, None)
            self.refused(BadDesks, desks, is_ahead, desks, (), ())
            self.refused(BadDesks, desks, is_ahead, desks, None, None)
            self.refused(BadDesks, desks, codes_number, desks)
            self.refused(BadDesks, desks, folded_word, desks)


class RowOfCodesTest(Case):
    def test_the_examples(self):
        self.told([9, (2, 0), (0, 1), 0],
                  [codes_number((ONE, ONE)), code_at((ONE, PILES), 0), code_at((ONE, PILES), 5),
                   position_of((PILES, PILES), (1, 0))])
        self.told([True, True], [is_ahead((ONE, PILES), (2, 0), (1, 0)), is_ahead((ONE, ONE), (2, 0), (0, 2))])

    def test_positions_and_codes_of_small_rows(self):
        for desks in ROWS:
            codes = all_codes(desks)
            self.told(len(codes), codes_number(desks))
            self.told(codes, [code_at(desks, n) for n in range(len(codes))])
            self.told(list(range(len(codes))), [position_of(desks, code) for code in codes])

    def test_which_code_is_ahead_in_small_rows(self):
        for desks in ROWS[::4] + [(), (PAIR,), (ONE, ONE), (ONE, PILES), (PILES, PILES)]:
            compare = compared(desks)
            codes = all_codes(desks)
            for one, other in product(codes[:12], codes):
                self.told(compare(one, other) < 0, is_ahead(desks, one, other))

    def test_no_desk(self):
        self.told([1, (), 0, False], [codes_number(()), code_at((), 0), position_of((), ()), is_ahead((), (), ())])

    def test_twelve_desks_of_six_places(self):
        number = 6 ** 12
        self.told(number, codes_number(TWELVE))
        draw = Random(21)
        compare = compared(TWELVE)
        positions = sorted({0, 1, number // 2, number - 1} | {draw.randrange(number) for _ in range(50)})
        codes = [code_at(TWELVE, n) for n in positions]
        for n, code in zip(positions, codes):
            self.told(True, is_code(TWELVE, code))
            self.told(n, position_of(TWELVE, code))
        for one, other in zip(codes, codes[1:]):
            self.told([-1, True, False],
                      [compare(one, other), is_ahead(TWELVE, one, other), is_ahead(TWELVE, other, one)])
        for n in positions[:-1]:
            self.told(True, is_ahead(TWELVE, code_at(TWELVE, n), code_at(TWELVE, n + 1)))

    def test_any_value_that_is_no_position(self):
        for desks in ((), (ONE,), (PILES, PILES), TWELVE):
            for n in NOTHING_VALID + STRINGS + ((), (0,), -1, codes_number(desks), codes_number(desks) + 1, 10 ** 99,
                                                -10 ** 99):
                self.refused(BadNumber, n, code_at, desks, n)


class FoldedWordTest(Case):
    def test_the_examples(self):
        self.told([(1, -1, 1), (1, 1, 1, 1), (-1, 1, -1, -1, 1, -1)],
                  [folded_word((ONE,)), folded_word((PILES, PILES)), folded_word((ONE, PILES))])

    def test_it_has_the_signs_of_the_codes_and_can_be_folded(self):
        for desks in ROWS:
            word = folded_word(desks)
            self.told(tuple(sign_of(desks, code) for code in all_codes(desks)), word)
            self.told(folded(desks), word)

    def test_no_desk_and_desks_of_one_place(self):
        self.told([(1,), (1,), (-1,), (-1,), (1,)],
                  [folded_word(()), folded_word((("tray",),) * 12), folded_word((("pile",),)),
                   folded_word((("pile",),) * 11), folded_word((("pile",),) * 12)])

    def test_words_of_nearly_two_thousand_signs(self):
        for desks in ((PAIR,) * 10, (SIX,) * 4, (("tray",) * 5,) * 4 + (ONE,), (PILES[::-1],) * 10,
                      (SIX, ONE) * 2 + (SIX[:5],)):
            word = folded_word(desks)
            self.told(prod(len(desk) for desk in desks), len(word))
            self.assertLessEqual(len(word), 2000)
            self.told(folded(desks), word)
            for n in range(0, len(word), 97):
                self.told(word[n], sign_of(desks, code_at(desks, n)))


if __name__ == "__main__":
    unittest.main()
