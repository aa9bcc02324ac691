import unittest
from itertools import product
from random import Random

from lotthrows.decks import together
from lotthrows.errors import BadNumber, BadSize, BadThrow, BadThrows, OtherSize
from lotthrows.rows import (
    ahead_holds, behind_holds, both, judge_ahead, judge_behind, judge_undone, power, row_of, undone_holds,
)
from lotthrows.throws import deck_after, is_throw, lot_of, order_after, size_of, still, turning, way_of
from helpers import (
    INTEGERS, NO_NUMBERS, NO_SIZES, NO_THROWS, NOTHING_VALID, SINGLES, SORT, STRINGS, THROWS, Case, drawn_throw, near,
    telling_deck,
)

BACK = (((1, 2), -1), ((0,), 1))
SMALL = [throw for size in (1, 2) for throw in THROWS[size]]
OF_TWO = [(first, whole) for size in (1, 2) for first in THROWS[size] for whole in THROWS[size]]
KIND_PAIRS = list(product((-1, 0, 1, 2, 3), repeat=2))


def done(deck, throws):
    """The order of the cards of a deck after the throws are done to it, one after the other."""
    order = tuple(range(len(deck)))
    for throw in throws:
        order = together(order, order_after(throw, deck))
        deck = deck_after(throw, deck)
    return order


def makes(throws, whole):
    """Whether throws, done one after the other, do to a deck that tells all throws what the whole does."""
    deck = telling_deck(size_of(whole))
    return done(deck, throws) == order_after(whole, deck)


def in_one_lot(throw, a, b):
    """Whether two kinds are in one lot."""
    return way_of(throw, a, b) in ("kept", "turned")


def pairs_below(size):
    """All pairs of kinds, the first one below the second one."""
    return [(a, b) for a in range(size) for b in range(size) if a < b]


def parted(first, whole):
    """All pairs of kinds that are parted for two throws."""
    return [(a, b) for a, b in pairs_below(size_of(whole)) if in_one_lot(whole, a, b) and not in_one_lot(first, a, b)]


def set_pairs(last, whole):
    """All pairs of kinds that are set for two throws."""
    return [(a, b) for a, b in product(range(size_of(whole)), repeat=2)
            if way_of(last, a, b) == "ahead" and way_of(whole, a, b) != "ahead"]


class BothTest(Case):
    def test_the_example(self):
        self.told((((1,), 1), ((2,), -1), ((0,), 1)), both(SORT, BACK))

    def test_all_pairs_of_small_sizes_against_doing_them_to_decks(self):
        for size in THROWS:
            for one, other in product(THROWS[size], repeat=2):
                whole = both(one, other)
                self.assertIn(whole, THROWS[size])
                self.assertTrue(makes((one, other), whole), (one, other))

    def test_the_still_throw_and_the_turning_one(self):
        for throw in (*SMALL, SORT, SINGLES):
            size = size_of(throw)
            opposite = tuple((lot, -sign) for lot, sign in throw[::-1])
            self.told([throw, throw], [both(throw, still(size)), both(still(size), throw)])
            self.told(opposite, both(throw, turning(size)))

    def test_larger_sizes(self):
        draw = Random(5)
        for size in range(4, 9):
            for _ in range(20):
                one, other = drawn_throw(size, draw), drawn_throw(size, draw)
                self.assertTrue(is_throw(both(one, other)))
                self.assertTrue(makes((one, other), both(one, other)), (one, other))

    def test_any_value_that_is_no_throw(self):
        for throw in NO_THROWS:
            self.refused(BadThrow, throw, both, throw, SORT)
            self.refused(BadThrow, throw, both, throw, None)
            self.refused(BadThrow, throw, both, SORT, throw)

    def test_a_throw_of_another_size(self):
        for one, other in ((SORT, still(2)), (still(1), SINGLES), (SINGLES, SINGLES[:7])):
            self.refused(OtherSize, other, both, one, other)
            self.refused(OtherSize, one, both, other, one)


class RowTest(Case):
    def test_the_examples(self):
        self.told([(((2,), -1), ((0,), 1), ((1,), -1)), (((0, 1), 1),)], [row_of(3, (SORT, BACK, SORT)), row_of(2, ())])

    def test_no_throw_and_one(self):
        for size in range(1, 9):
            self.told([still(size), turning(size)], [row_of(size, ()), row_of(size, (turning(size),))])
        for throw in SMALL:
            self.told(throw, row_of(size_of(throw), (throw,)))

    def test_rows_of_three_against_doing_them_to_decks(self):
        draw = Random(6)
        for size in range(1, 9):
            for length in (2, 3, 4, 7):
                throws = tuple(drawn_throw(size, draw) for _ in range(length))
                self.assertTrue(makes(throws, row_of(size, throws)), throws)

    def test_sixty_throws_and_one_more(self):
        draw = Random(7)
        sixty = tuple(drawn_throw(4, draw) for _ in range(60))
        self.assertTrue(makes(sixty, row_of(4, sixty)))
        self.told([still(2), turning(2)], [row_of(2, (turning(2),) * 60), row_of(2, (turning(2),) * 59)])
        for throws in ((turning(2),) * 61, (still(2),) * 2000):
            self.refused(BadThrows, throws, row_of, 2, throws)

    def test_any_value_that_is_no_size(self):
        for size in NO_SIZES:
            self.refused(BadSize, size, row_of, size, ())
            self.refused(BadSize, size, row_of, size, None)

    def test_any_value_that_is_no_tuple_of_throws_of_the_size(self):
        for throws in NOTHING_VALID + STRINGS + INTEGERS + (
                SORT, still(2), [still(2)], (still(2), still(1)), (still(3),), (still(2), still(2), still(8)),
                (still(2), None), (still(2), [((0, 1), 1)]), ((still(2),),), {0: still(2)}, (still(2), True), still(1)):
            self.refused(BadThrows, throws, row_of, 2, throws)
        for throw in NO_THROWS:
            throws = (still(2), throw)
            self.refused(BadThrows, throws, row_of, 2, throws)

    def test_values_near_to_a_row_of_throws(self):
        for thing in near((still(1), turning(1))):
            right = isinstance(thing,
                               tuple) and all(repr(throw) in ("(((0,), 1),)", "(((0,), -1),)") for throw in thing)
            if right:
                self.told(turning(1) if thing.count(turning(1)) % 2 else still(1), row_of(1, thing))
            else:
                self.refused(BadThrows, thing, row_of, 1, thing)


class PowerTest(Case):
    def test_the_examples(self):
        self.told([(((0, 2), 1), ((1,), 1)), True, (((0, 1, 2), 1),)],
                  [power(SORT, 2), power(SORT, 10 ** 30 + 1) == SORT, power(SORT, 0)])

    def test_it_is_the_row_of_as_many(self):
        for throw in (*SMALL, *THROWS[3], SINGLES, turning(8)):
            for n in range(6):
                self.told(row_of(size_of(throw), (throw,) * n), power(throw, n))

    def test_great_numbers(self):
        for throw in (*SMALL, SORT, SINGLES):
            self.told([power(throw, 2), throw, throw], [power(throw, 10 ** 100), power(throw, 10 ** 100 - 1),
                                                        power(throw, 10 ** 99 + 1)])

    def test_any_value_that_is_no_throw(self):
        for throw in NO_THROWS:
            self.refused(BadThrow, throw, power, throw, 2)
            self.refused(BadThrow, throw, power, throw, None)

    def test_any_value_that_is_no_number(self):
        for n in NO_NUMBERS:
            self.refused(BadNumber, n, power, SORT, n)


class UndoneTest(Case):
    def test_the_examples(self):
        self.told([('undone', (((0, 1), -1),)), True],
                  [judge_undone((((0, 1), -1),)), undone_holds(SORT, ("lost", 0, 1))])

    def test_just_the_right_certificates_hold(self):
        candidates = [("undone", throw) for throw in (*SMALL, SORT, still(3), turning(3), SINGLES)]
        candidates += [("lost", a, b) for a, b in KIND_PAIRS]
        for throw in (*SMALL, SORT, BACK, still(3), turning(3)):
            size = size_of(throw)
            undoing = [("undone", other) for other in THROWS[size] if makes((throw, other), still(size))]
            lost = [("lost", a, b) for a, b in pairs_below(size) if not in_one_lot(throw, a, b)]
            self.assertNotEqual(bool(undoing), bool(lost))
            self.only_right_ones_hold(undoing + lost, candidates, judge_undone(throw), undone_holds, throw)

    def test_lost_kinds_come_to_the_same(self):
        for throw in THROWS[3]:
            judged = judge_undone(throw)
            if judged[0] == "lost":
                _, a, b = judged
                self.assertLess(a, b)
                self.told(deck_after(throw, (a, b)), deck_after(throw, (b, a)))

    def test_large_sizes(self):
        self.told([("undone", still(8)), ("undone", turning(8))], [judge_undone(still(8)), judge_undone(turning(8))])
        self.told([False, False],
                  [undone_holds(still(8), ("undone", turning(8))), undone_holds(still(8), ("lost", 0, 7))])
        self.told("lost", judge_undone(SINGLES[::-1])[0])
        self.told([True, False, False, False],
                  [undone_holds(SINGLES, ("lost", 0, 7)), undone_holds(SINGLES, ("lost", 7, 0)),
                                                undone_holds(SINGLES, ("lost", 0, 8)),
                                                undone_holds(SINGLES, ("lost", 3, 3))])

    def test_any_value_that_is_no_throw(self):
        for throw in NO_THROWS:
            self.refused(BadThrow, throw, judge_undone, throw)
            self.refused(BadThrow, throw, undone_holds, throw, ("lost", 0, 1))
            self.refused(BadThrow, throw, undone_holds, throw, None)


class WantedTest(Case):
    def test_the_examples(self):
        self.told([('parted', 1, 2), 'set', True], [judge_behind(SORT, BACK), judge_ahead(SORT, BACK)[0],
                                                    behind_holds(SORT, both(SORT, BACK), ("throw", BACK))])

    def test_behind_for_all_pairs_of_small_sizes(self):
        for size in THROWS:
            for first in THROWS[size]:
                made = {both(first, throw) for throw in THROWS[size]}
                for whole in THROWS[size]:
                    pairs = parted(first, whole)
                    judged = judge_behind(first, whole)
                    self.assertNotEqual(whole in made, bool(pairs))
                    if pairs:
                        self.assertIn(judged, [("parted", a, b) for a, b in pairs])
                    else:
                        self.told("throw", judged[0])
                        self.assertTrue(makes((first, judged[1]), whole), (first, whole))
                    self.told(True, behind_holds(first, whole, judged))

    def test_ahead_for_all_pairs_of_small_sizes(self):
        for size in THROWS:
            for last in THROWS[size]:
                made = {both(throw, last) for throw in THROWS[size]}
                for whole in THROWS[size]:
                    pairs = set_pairs(last, whole)
                    judged = judge_ahead(last, whole)
                    self.assertNotEqual(whole in made, bool(pairs))
                    if pairs:
                        self.assertIn(judged, [("set", a, b) for a, b in pairs])
                    else:
                        self.told("throw", judged[0])
                        self.assertTrue(makes((judged[1], last), whole), (last, whole))
                    self.told(True, ahead_holds(last, whole, judged))

    def test_just_the_right_certificates_hold_behind(self):
        candidates = [("throw", throw) for throw in (*SMALL, SORT)]
        candidates += [(mark, a, b) for mark in ("parted", "set") for a, b in KIND_PAIRS]
        for first, whole in OF_TWO + [(SORT, BACK), (BACK, SORT), (SORT, both(SORT, BACK)), (SORT, still(3))]:
            right = [("throw", throw) for throw in THROWS[size_of(whole)] if makes((first, throw), whole)]
            right += [("parted", a, b) for a, b in parted(first, whole)]
            self.only_right_ones_hold(right, candidates, judge_behind(first, whole), behind_holds, first, whole)

    def test_just_the_right_certificates_hold_ahead(self):
        candidates = [("throw", throw) for throw in (*SMALL, SORT)]
        candidates += [(mark, a, b) for mark in ("parted", "set") for a, b in KIND_PAIRS]
        for last, whole in OF_TWO + [(SORT, BACK), (BACK, SORT), (BACK, both(SORT, BACK)), (SORT, still(3))]:
            right = [("throw", throw) for throw in THROWS[size_of(whole)] if makes((throw, last), whole)]
            right += [("set", a, b) for a, b in set_pairs(last, whole)]
            self.only_right_ones_hold(right, candidates, judge_ahead(last, whole), ahead_holds, last, whole)

    def test_larger_sizes(self):
        draw = Random(8)
        for size in range(4, 9):
            for _ in range(20):
                one, other, third = [drawn_throw(size, draw) for _ in range(3)]
                whole = both(one, other)
                self.told(True, behind_holds(one, whole, ("throw", other)))
                self.told(True, ahead_holds(other, whole, ("throw", one)))
                self.told("throw", judge_behind(one, whole)[0])
                self.told("throw", judge_ahead(other, whole)[0])
                self.told(True, behind_holds(one, whole, judge_behind(one, whole)))
                self.told(True, ahead_holds(other, whole, judge_ahead(other, whole)))
                self.told(bool(parted(one, third)), judge_behind(one, third)[0] == "parted")
                self.told(bool(set_pairs(one, third)), judge_ahead(one, third)[0] == "set")
                self.told(True, behind_holds(one, third, judge_behind(one, third)))
                self.told(True, ahead_holds(one, third, judge_ahead(one, third)))

    def test_parted_kinds_ascend_and_set_kinds_need_not(self):
        self.told([True, False], [behind_holds(SINGLES, still(8), ("parted", 2, 5)),
                                  behind_holds(SINGLES, still(8), ("parted", 5, 2))])
        self.told([True, False], [ahead_holds(SINGLES[::-1], still(8), ("set", 5, 2)),
                                  ahead_holds(SINGLES[::-1], still(8), ("set", 2, 5))])
        self.told([1, 0], [lot_of(SORT, 1), lot_of(SORT, 2)])
        self.told([True, False],
                  [ahead_holds(SORT, still(3), ("set", 2, 1)), ahead_holds(SORT, still(3), ("set", 1, 2))])

    def test_any_value_that_is_no_throw(self):
        for throw in NO_THROWS:
            for function in (judge_behind, judge_ahead):
                self.refused(BadThrow, throw, function, throw, SORT)
                self.refused(BadThrow, throw, function, throw, None)
                self.refused(BadThrow, throw, function, SORT, throw)
            for function in (behind_holds, ahead_holds):
                self.refused(BadThrow, throw, function, throw, SORT, ("throw", SORT))
                self.refused(BadThrow, throw, function, throw, None, None)
                self.refused(BadThrow, throw, function, SORT, throw, None)

    def test_a_whole_of_another_size(self):
        for one, whole in ((SORT, still(2)), (still(1), SINGLES), (SINGLES, SINGLES[:7])):
            for function in (judge_behind, judge_ahead):
                self.refused(OtherSize, whole, function, one, whole)
            for function in (behind_holds, ahead_holds):
                self.refused(OtherSize, whole, function, one, whole, ("throw", one))
                self.refused(OtherSize, whole, function, one, whole, None)


if __name__ == "__main__":
    unittest.main()
