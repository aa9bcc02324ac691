import unittest
from itertools import product
from random import Random

from lotthrows.errors import BadDesk, BadDesks, BadNumber, BadPlan, BadSize, BadThrow
from lotthrows.folded import folded_word, is_ahead, sign_of
from lotthrows.plans import (
    fewest, is_plan, judge_made, made_holds, plan_for, sign_rows, throw_of_plan,
)
from lotthrows.throws import is_throw, order_after, size_of, still, turning
from helpers import (
    INTEGERS, NO_NUMBERS, NO_SIZES, NO_THROWS, NOTHING_VALID, SINGLES, SORT, STRINGS, THROWS, Case, drawn_throw, near,
    telling_deck,
)
from test_folded import DESKS, NO_DESKS, ONE, PAIR, PILES, ROWS, SIX, TWELVE, all_codes
from test_sheets import NO_DESKS as NO_SINGLE_DESKS, dealt

TRAYS = ("tray", "tray")
THREE_KEPT = (((0,), 1), ((1,), 1), ((2,), 1))
TURNED = (((0,), -1), ((1,), -1))
SMALL_ROWS = [(), *((desk,) for desk in DESKS), *product(DESKS[:6], repeat=2), (PAIR, ONE), (ONE, PILES), (PAIR,) * 3]
NO_PLANS = NOTHING_VALID + STRINGS + INTEGERS + (
    (), ((0, 1),), ((0, 1), (1, 1), (0, 0)), ((0, 1), (0, 2)), ((0, 1), (0, 1, 1)), ((0, 1, 1), (0, 1)), ((0, 1), ()),
    ((), ()), [(0, 1), (1, 1)], ((0, 1), [1, 1]), ((0, True), (1, 1)), ((0, 1), (1, None)), ((0, 1), None),
    ((0, -1), (1, 1)),
    (((0, 1), (1, 1)),), ("01", "11"), ((0,) * 9, (1,) * 9), {0: (0, 1)}, ((0, 1), {0: 1}), (0, 1), ((0, 1), (1, (1,))),
)


def lots_with(signs):
    """The throw whose lots are single kinds, with these signs."""
    return tuple(((kind,), sign) for kind, sign in enumerate(signs))


def order_by_dealing(desks, plan, deck):
    """The order of the cards after a deck is thrown by the sheets of a plan, card by card."""
    order = tuple(range(len(deck)))
    for desk, sheet in zip(desks, plan):
        lying = sum(dealt(desk, sheet, tuple(deck[card] for card in order)), ())
        order = tuple(order[at] for at in lying)
    return order


def all_plans(size, desks):
    """All plans with sheets of a size for a row of desks."""
    return product(*(product(range(len(desk)), repeat=size) for desk in desks))


def throws_made(size, desks):
    """The throws of all plans with sheets of a size for a row of desks, found by dealing."""
    deck = telling_deck(size)
    by_order = {order_after(throw, deck): throw for throw in THROWS[size]}
    return {by_order[order_by_dealing(desks, plan, deck)] for plan in all_plans(size, desks)}


def signs_found(word, signs):
    """How many of a row of signs stand in a word, the first ones, in order."""
    m = 0
    for sign in word:
        if m < len(signs) and signs[m] == sign:
            m += 1
    return m


def folded(desk, p):
    """The folded word of p desks, made by laying the word so far."""
    word = (1,)
    for _ in range(p):
        turned = tuple(-sign for sign in reversed(word))
        word = sum([word if place == "tray" else turned for place in desk], ())
    return word


class IsPlanTest(Case):
    def test_no_desk(self):
        self.told([True, False, False, False],
                  [is_plan((), ()), is_plan((), ((),)), is_plan((), ((0,),)), is_plan((), [])])
        self.told(False, is_plan((PAIR,), ()))

    def test_all_small_plans(self):
        for desks in ((PAIR,), (PAIR, ONE), (("tray",), PILES)):
            right = {plan for size in (1, 2) for plan in all_plans(size, desks)}
            sheets = [sheet for size in range(3) for sheet in product(range(-1, 4), repeat=size)]
            for length in (1, 2):
                for plan in product(sheets[::1 if length == 1 else 2], repeat=length):
                    self.told(plan in right, is_plan(desks, plan))

    def test_one_kind_and_eight_and_twelve_desks(self):
        for size in range(1, 9):
            self.told(True, is_plan(TWELVE, ((5,) * size,) * 12))
            self.told(False, is_plan(TWELVE, ((5,) * size,) * 11 + ((5,) * (size % 8 + 1),)))
            self.told(False, is_plan(TWELVE, ((5,) * size,) * 11))
        self.told(False, is_plan(TWELVE, ((0,) * 9,) * 12))

    def test_any_value_that_is_none(self):
        for thing in NO_PLANS:
            self.told(False, is_plan((PAIR, PAIR), thing))

    def test_values_near_to_one(self):
        right = {repr(plan) for size in range(1, 5) for plan in all_plans(size, (PAIR, PAIR))}
        for thing in near(((0, 1), (1, 1))):
            self.told(repr(thing) in right, is_plan((PAIR, PAIR), thing), thing)

    def test_any_value_that_is_no_row_of_desks(self):
        for desks in NO_DESKS:
            self.refused(BadDesks, desks, is_plan, desks, ())
            self.refused(BadDesks, desks, is_plan, desks, None)


class ThrowOfPlanTest(Case):
    def test_the_example(self):
        self.told((((1,), 1), ((0,), -1)), throw_of_plan(2, (PAIR, PAIR), ((0, 1), (1, 1))))

    def test_all_small_plans_by_dealing(self):
        for desks in SMALL_ROWS:
            for size in (1, 2):
                deck = telling_deck(size)
                for plan in all_plans(size, desks):
                    throw = throw_of_plan(size, desks, plan)
                    self.told(True, is_throw(throw))
                    self.told(order_by_dealing(desks, plan, deck), order_after(throw, deck))

    def test_no_desk_gives_the_still_throw_of_any_size(self):
        for size in range(1, 9):
            self.told(still(size), throw_of_plan(size, (), ()))

    def test_larger_plans_by_dealing(self):
        draw = Random(31)
        for size in (4, 8):
            for desks in (TWELVE, (SIX,), (ONE, PILES, SIX)):
                plan = tuple(tuple(draw.randrange(len(desk)) for _ in range(size)) for desk in desks)
                throw = throw_of_plan(size, desks, plan)
                deck = telling_deck(size)
                self.told(size, size_of(throw))
                self.told(order_by_dealing(desks, plan, deck), order_after(throw, deck))

    def test_any_value_that_is_no_size(self):
        for size in NO_SIZES:
            self.refused(BadSize, size, throw_of_plan, size, (PAIR,), ((0, 1),))
            self.refused(BadSize, size, throw_of_plan, size, None, None)

    def test_any_value_that_is_no_row_of_desks(self):
        for desks in NO_DESKS:
            self.refused(BadDesks, desks, throw_of_plan, 2, desks, ())
            self.refused(BadDesks, desks, throw_of_plan, 2, desks, None)

    def test_any_value_that_is_no_plan_with_sheets_of_the_size(self):
        for plan in NO_PLANS + (((0,), (1,)), ((0, 1, 1), (1, 1, 0))):
            self.refused(BadPlan, plan, throw_of_plan, 2, (PAIR, PAIR), plan)
            if plan != ():
                self.refused(BadPlan, plan, throw_of_plan, 2, (), plan)
        right = {repr(plan) for plan in all_plans(2, (PAIR, PAIR))}
        for plan in near(((0, 1), (1, 1))):
            if repr(plan) not in right:
                self.refused(BadPlan, plan, throw_of_plan, 2, (PAIR, PAIR), plan)


class MadeTest(Case):
    def test_the_examples(self):
        self.told([('short', 2), ('short', 0), ('codes', ((0,), (1,), (2,))), True, ((0, 1, 0, 2),)],
                  [judge_made((ONE,), THREE_KEPT), judge_made((PILES,), THREE_KEPT),
                   judge_made((ONE,), (((0,), 1), ((1,), -1), ((2,), 1))),
                   made_holds((PILES, PILES), THREE_KEPT, ("codes", ((1, 0), (0, 0), (0, 1)))),
                   plan_for((ONE,), (((0, 2), 1), ((1,), -1), ((3,), 1)))])

    def judged_rightly(self, desks, throw, made):
        judged = judge_made(desks, throw)
        plan = plan_for(desks, throw)
        self.told(True, made_holds(desks, throw, judged))
        self.told("codes" if made else "short", judged[0], (desks, throw))
        self.assertEqual(len(judged), 2)
        if made:
            codes = judged[1]
            self.told([sign for _, sign in throw], [sign_of(desks, code) for code in codes])
            for one, other in zip(codes, codes[1:]):
                self.told(True, is_ahead(desks, one, other))
            self.told(True, is_plan(desks, plan))
            self.told(throw, throw_of_plan(size_of(throw), desks, plan))
            deck = telling_deck(size_of(throw))
            self.told(order_after(throw, deck), order_by_dealing(desks, plan, deck))
        else:
            self.told(None, plan)

    def test_all_throws_of_small_sizes_against_all_plans(self):
        for desks in SMALL_ROWS:
            for size in (1, 2, 3):
                if len(folded_word(desks)) ** size < 600:
                    made = throws_made(size, desks)
                    for throw in THROWS[size]:
                        self.judged_rightly(desks, throw, throw in made)

    def test_the_signs_stand_in_the_folded_word_or_are_short_at_a_lot(self):
        draw = Random(32)
        for desks in ROWS[::3] + [(PAIR,) * 4, (PILES,) * 3, (SIX, SIX)]:
            word = folded_word(desks)
            for lots in range(1, 9):
                signs = tuple(draw.choices((1, -1), k=lots))
                throw = lots_with(signs)
                found = signs_found(word, signs)
                self.judged_rightly(desks, throw, found == lots)
                for m in range(-1, lots + 2):
                    self.told(m == found and found < lots, made_holds(desks, throw, ("short", m)))

    def test_lots_of_several_kinds(self):
        draw = Random(33)
        for size in range(2, 9):
            for desks in ((ONE, PILES), (SIX,), (PAIR, PAIR, PAIR), (("pile",), SIX)):
                for _ in range(4):
                    throw = drawn_throw(size, draw)
                    signs = [sign for _, sign in throw]
                    self.judged_rightly(desks, throw, signs_found(folded_word(desks), signs) == len(signs))

    def test_no_desk(self):
        for size in range(1, 9):
            self.told([("codes", ((),)), ()], [judge_made((), still(size)), plan_for((), still(size))])
            self.told([("short", 0), None], [judge_made((), turning(size)), plan_for((), turning(size))])
        self.told(("short", 1), judge_made((), THREE_KEPT))

    def test_desks_of_one_place(self):
        self.told([("codes", ((0,),)), ("short", 0)],
                  [judge_made((("tray",),), still(2)), judge_made((("tray",),), turning(2))])
        self.told([("codes", ((0,),)), ("short", 0)],
                  [judge_made((("pile",),), turning(2)), judge_made((("pile",),), still(2))])
        self.told([("codes", ((0,) * 12,)), ("short", 1)],
                  [judge_made((("pile",),) * 12, still(3)), judge_made((("pile",),) * 12, THREE_KEPT)])

    def test_twelve_desks_of_six_places(self):
        draw = Random(34)
        throws = [SINGLES, SINGLES[::-1], lots_with((1,) * 8), lots_with((-1,) * 8), still(8), turning(8)]
        for throw in throws + [lots_with(draw.choices((1, -1), k=8)) for _ in range(5)]:
            for desks in (TWELVE, (SIX,) * 12, (ONE + PILES,) * 12):
                self.judged_rightly(desks, throw, True)
        trays, piles = (("tray",) * 6,) * 12, (("pile",) * 6,) * 12
        for desks in (trays, piles):
            self.judged_rightly(desks, lots_with((1,) * 8), True)
            for lots in range(8):
                throw = lots_with((1,) * lots + (-1,) + (1,) * (7 - lots))
                self.judged_rightly(desks, throw, False)
                self.told(("short", lots), judge_made(desks, throw))
        self.told(("short", 0), judge_made(piles[1:] + (("tray",) * 6,), still(1)))
        far = (("tray",) * 6,) * 11 + (("tray",) * 5 + ("pile",),)
        kind, codes = judge_made(far, lots_with((1, 1, 1, 1, 1, 1, 1, -1)))
        self.told(["codes", 5], [kind, codes[-1][-1]])

    def test_just_the_right_certificates_hold(self):
        for desks, throw in (((ONE,), THREE_KEPT), ((ONE,), lots_with((1, -1))), ((PAIR, PAIR), TURNED), ((), still(2)),
                             ((), TURNED), ((PILES,), still(1)), ((PAIR, PILES), SORT), ((ONE,), turning(3))):
            codes = all_codes(desks)
            signs = [sign for _, sign in throw]
            right = [("codes", chosen) for chosen in product(codes, repeat=len(throw))
                     if [sign_of(desks, code) for code in chosen] == signs
                     and all(codes.index(one) < codes.index(other) for one, other in zip(chosen, chosen[1:]))]
            found = signs_found(folded_word(desks), signs)
            right += [("short", found)] if found < len(throw) else []
            candidates = [("codes", chosen) for length in range(4) for chosen in product(codes, repeat=length)]
            candidates += [("short", m) for m in (True, False, *range(-1, 10))]
            self.only_right_ones_hold(right, candidates, judge_made(desks, throw), made_holds, desks, throw)

    def test_any_value_that_is_no_row_of_desks(self):
        for desks in NO_DESKS:
            for function in (judge_made, plan_for):
                self.refused(BadDesks, desks, function, desks, SORT)
                self.refused(BadDesks, desks, function, desks, None)
            self.refused(BadDesks, desks, made_holds, desks, SORT, ("short", 0))
            self.refused(BadDesks, desks, made_holds, desks, None, None)

    def test_any_value_that_is_no_throw(self):
        for throw in NO_THROWS:
            self.refused(BadThrow, throw, judge_made, (ONE,), throw)
            self.refused(BadThrow, throw, plan_for, (), throw)
            self.refused(BadThrow, throw, made_holds, (ONE,), throw, ("short", 0))
            self.refused(BadThrow, throw, made_holds, (ONE,), throw, None)


class FewestTest(Case):
    def test_the_examples(self):
        self.told([3, 2, 2, None, 1, 2],
                  [fewest(PAIR, THREE_KEPT), fewest(PILES, THREE_KEPT), fewest(TRAYS, THREE_KEPT),
                   fewest(TRAYS, TURNED),
                   fewest(PILES, TURNED), fewest(PAIR, TURNED)])

    def test_the_first_folded_word_in_which_the_signs_stand(self):
        for desk in DESKS + [SIX, ("tray", "tray", "tray", "pile")]:
            words = [folded(desk, p) for p in range(6)]
            for lots in (1, 2, 3, 4, 5, 8):
                for signs in product((1, -1), repeat=lots):
                    fitting = [p for p, word in enumerate(words) if signs_found(word, signs) == lots]
                    self.told(fitting[0] if fitting else None, fewest(desk, lots_with(signs)))

    def test_for_which_throws_there_is_a_number(self):
        for desk in DESKS:
            for lots in (1, 2, 3, 7, 8):
                for signs in product((1, -1), repeat=lots):
                    told = fewest(desk, lots_with(signs)) is not None
                    if "tray" in desk and "pile" in desk:
                        self.told(True, told)
                    elif len(desk) == 1:
                        self.told(lots == 1 and (signs == (1,) or desk == ("pile",)), told)
                    else:
                        self.told(-1 not in signs if "tray" in desk else len(set(signs)) == 1, told)

    def test_the_still_throw_needs_none(self):
        for size in range(1, 9):
            for desk in (*DESKS, SIX):
                self.told(0, fewest(desk, still(size)))
            self.told([None, 1, None, 1, 1],
                      [fewest(desk, turning(size)) for desk in (("tray",), ("pile",), TRAYS, PILES, PAIR)])

    def test_what_some_throws_make_and_one_more_do_not(self):
        self.told(1, fewest(PILES, TURNED))
        self.told([True, True, False, True], [plan_for((PILES,) * p, TURNED) is not None for p in (1, 3, 2, 5)])
        self.told([True, False, True], [plan_for((PILES,) * p, lots_with((1, 1))) is not None for p in (2, 3, 4)])
        self.told([False, True, False, True], [plan_for((("pile",),) * p, turning(2)) is not None for p in range(4)])

    def test_eight_lots(self):
        self.told([4, 4, 3], [fewest(desk, lots_with((1,) * 8)) for desk in (PAIR, PILES, TRAYS)])
        self.told([4, 3, None], [fewest(desk, lots_with((-1,) * 8)) for desk in (PAIR, PILES, TRAYS)])
        self.told([3, 4, 2, 2],
                  [fewest(PAIR, SINGLES), fewest(PAIR[::-1], SINGLES), fewest(SIX, SINGLES), fewest(ONE, SINGLES)])
        self.told([2, 2, None], [fewest(("tray",) * 6, lots_with((1,) * 8)), fewest(("pile",) * 6, lots_with((1,) * 8)),
                                 fewest(("pile",) * 6, SINGLES)])

    def test_kinds_in_one_lot_count_as_one(self):
        self.told([1, 1, None], [fewest(PAIR, SORT), fewest(SIX, SORT), fewest(TRAYS, SORT)])

    def test_any_value_that_is_no_desk(self):
        for desk in NO_SINGLE_DESKS:
            self.refused(BadDesk, desk, fewest, desk, SORT)
            self.refused(BadDesk, desk, fewest, desk, None)

    def test_any_value_that_is_no_throw(self):
        for throw in NO_THROWS:
            self.refused(BadThrow, throw, fewest, PAIR, throw)


class SignRowsTest(Case):
    def test_the_example(self):
        self.told(3, sign_rows((ONE,), 2))

    def test_all_rows_of_signs_against_the_folded_word(self):
        for desks in ROWS[::5] + [(), (PAIR,), (PILES,) * 3, (PAIR,) * 4, (ONE, PILES), (SIX, ONE)]:
            word = folded_word(desks)
            for m in range(9):
                standing = [signs for signs in product((1, -1), repeat=m) if signs_found(word, signs) == m]
                self.told(len(standing), sign_rows(desks, m))

    def test_no_sign_and_more_than_the_word_has(self):
        for desks in ROWS[::7]:
            self.told(1, sign_rows(desks, 0))
        self.told([1, 0, 0], [sign_rows((), 1), sign_rows((), 2), sign_rows((ONE,), 4)])
        self.told([1] * 5 + [0] * 4, [sign_rows((PILES,) * 2, m) for m in range(9)])

    def test_words_of_nearly_two_thousand_signs(self):
        self.told([2 ** m for m in range(9)], [sign_rows((SIX,) * 4, m) for m in range(9)])
        self.told([1] * 9, [sign_rows((PILES,) * 10, m) for m in range(9)])

    def test_any_value_that_is_no_row_of_desks(self):
        for desks in NO_DESKS:
            self.refused(BadDesks, desks, sign_rows, desks, 2)
            self.refused(BadDesks, desks, sign_rows, desks, None)

    def test_any_value_that_is_no_number(self):
        for m in NO_NUMBERS:
            self.refused(BadNumber, m, sign_rows, (ONE,), m)


if __name__ == "__main__":
    unittest.main()
