import unittest
from itertools import product

from lotthrows.errors import BadDeck, BadDesk, BadSheet, BadThrow
from lotthrows.sheets import gathered, is_desk, is_sheet, sheet_for, throw_by
from lotthrows.throws import is_throw, order_after
from helpers import (
    INTEGERS, NO_DECKS, NO_THROWS, NOTHING_VALID, SINGLES, SORT, STRINGS, THROWS, Case, near, telling_deck,
)

DESK = ("tray", "pile")
SIX = ("tray", "pile") * 3
DESKS = [desk for places in range(1, 4) for desk in product(("tray", "pile"), repeat=places)]
SOME_DESKS = (*DESKS, SIX, ("tray",) * 6, ("pile",) * 6, SIX[::-1])
NO_DESKS = NOTHING_VALID + STRINGS + INTEGERS + (
    (), ("tray",) * 7, ("pile",) * 2000, SIX + ("tray",), ["tray"], ["tray", "pile"], "tray", "pile", ("Tray",),
    ("trays",), ("tray ",), (" pile",), ("pile\n",), ("",), ("tray", "pil"), ("tray", None), ("tray", 1),
    ("tray", True),
    (("tray",),), (("tray", "pile"),), ("tray", ("pile",)), ("tray", ["pile"]), {"tray": 1}, ({"tray": "pile"},),
    ("t", "r", "a", "y"), (b"tray",), ("kept", "turned"), (1, -1), ("tray", []),
)
NO_SHEETS = NOTHING_VALID + STRINGS + INTEGERS + (
    (), (0,) * 9, (0,) * 60, (2,), (0, 2), (1, 0, 2), (-1,), (0, -1), (0, 1, True), (False, 1), [0], [0, 1],
    (0, [1]), (0, (1,)), ("0", "1"), (0, "1"), ("tray",), ("tray", "pile"), (0, None), {0: 1}, (0, 10 ** 99),
)


def dealt(desk, sheet, deck):
    """The places of a desk after the cards are thrown one by one."""
    places = [[] for _ in desk]
    for card, kind in enumerate(deck):
        lying = places[sheet[kind]]
        lying.insert(len(lying) if desk[sheet[kind]] == "tray" else 0, card)
    return tuple(tuple(lying) for lying in places)


class DeskTest(Case):
    def test_the_example(self):
        self.told(True, is_desk(DESK))

    def test_one_place_to_six(self):
        for places in range(1, 7):
            for desk in product(("tray", "pile"), repeat=places):
                self.told(True, is_desk(desk))

    def test_any_value_that_is_none(self):
        for thing in NO_DESKS:
            self.told(False, is_desk(thing))

    def test_values_near_to_one(self):
        right = {repr(desk) for places in range(1, 7) for desk in product(("tray", "pile"), repeat=places)}
        for desk in DESKS:
            for thing in near(desk):
                self.told(repr(thing) in right, is_desk(thing), thing)


class SheetTest(Case):
    def test_the_example(self):
        self.told(False, is_sheet(DESK, (0, 2)))

    def test_small_sheets_for_small_desks(self):
        for desk in SOME_DESKS:
            for length in range(4):
                for sheet in product(range(-1, 7), repeat=length):
                    right = length > 0 and all(0 <= place < len(desk) for place in sheet)
                    self.told(right, is_sheet(desk, sheet))

    def test_one_kind_to_eight(self):
        for desk in SOME_DESKS:
            last = len(desk) - 1
            for size in range(1, 9):
                self.told([True, True, False], [is_sheet(desk, (0,) * size), is_sheet(desk, (last,) * size),
                                                is_sheet(desk, (last,) * (size - 1) + (last + 1,))])
            self.told(False, is_sheet(desk, (0,) * 9))

    def test_any_value_that_is_none(self):
        for thing in NO_SHEETS:
            self.told(False, is_sheet(DESK, thing))

    def test_values_near_to_one(self):
        for sheet in ((0,), (1, 0), (0, 1, 1)):
            right = {repr(sheet) for size in range(1, 9) for sheet in product((0, 1), repeat=size)}
            for thing in near(sheet):
                self.told(repr(thing) in right, is_sheet(DESK, thing), thing)

    def test_any_value_that_is_no_desk(self):
        for desk in NO_DESKS:
            self.refused(BadDesk, desk, is_sheet, desk, (0,))
            self.refused(BadDesk, desk, is_sheet, desk, None)


class ThrownTest(Case):
    def test_the_examples(self):
        self.told([(((0, 2), 1), ((1,), -1)), ((1, 2, 4), (3, 0))],
                  [throw_by(DESK, (0, 1, 0)), gathered(DESK, (0, 1, 0), (1, 0, 2, 1, 0))])

    def test_all_small_sheets_do_as_dealing_does(self):
        for desk in SOME_DESKS:
            for size in range(1, 4):
                deck = telling_deck(size)
                for sheet in product(range(len(desk)), repeat=size):
                    places = dealt(desk, sheet, deck)
                    throw = throw_by(desk, sheet)
                    self.told(True, is_throw(throw))
                    self.told(places, gathered(desk, sheet, deck))
                    self.told(sum(places, ()), order_after(throw, deck))

    def test_lots_are_the_kinds_of_a_place_with_its_sign(self):
        self.told((((0,), 1),), throw_by(("tray",), (0,)))
        self.told((((0,), -1),), throw_by(("pile",), (0,)))
        self.told((((0, 1, 2, 3, 4, 5, 6, 7), -1),), throw_by(SIX, (5,) * 8))
        self.told((((7,), 1), ((6,), -1), ((5,), 1), ((4,), -1), ((3,), 1), ((0, 1, 2), -1)),
                  throw_by(SIX, (5, 5, 5, 4, 3, 2, 1, 0)))
        self.told((((1, 3), 1), ((0, 2), 1)), throw_by(("tray", "tray", "tray"), (2, 0, 2, 0)))

    def test_all_decks_of_a_few_cards(self):
        for desk in DESKS:
            sheet = (len(desk) - 1, 0)
            for length in range(5):
                for deck in product((0, 1), repeat=length):
                    self.told(dealt(desk, sheet, deck), gathered(desk, sheet, deck))

    def test_no_cards_and_sixty(self):
        sixty = (tuple(range(8)) * 8)[:60]
        for desk in SOME_DESKS:
            sheet = tuple(kind % len(desk) for kind in range(8))
            self.told(((),) * len(desk), gathered(desk, sheet, ()))
            self.told(dealt(desk, sheet, sixty), gathered(desk, sheet, sixty))
        self.told((tuple(range(60))[::-1],), gathered(("pile",), (0,), (0,) * 60))

    def test_any_value_that_is_no_desk(self):
        for desk in NO_DESKS:
            for sheet in ((0,), None):
                self.refused(BadDesk, desk, throw_by, desk, sheet)
                self.refused(BadDesk, desk, gathered, desk, sheet, ())
                self.refused(BadDesk, desk, gathered, desk, sheet, None)

    def test_any_value_that_is_no_sheet(self):
        for sheet in NO_SHEETS:
            self.refused(BadSheet, sheet, throw_by, DESK, sheet)
            self.refused(BadSheet, sheet, gathered, DESK, sheet, ())
            self.refused(BadSheet, sheet, gathered, DESK, sheet, None)
        for desk in SOME_DESKS:
            sheet = (0, len(desk))
            self.refused(BadSheet, sheet, throw_by, desk, sheet)
            self.refused(BadSheet, sheet, gathered, desk, sheet, ())

    def test_any_value_that_is_no_deck_of_as_many_kinds(self):
        for deck in NO_DECKS:
            self.refused(BadDeck, deck, gathered, DESK, (0,) * 8, deck)
        for size in range(1, 9):
            deck = (0, size)
            self.refused(BadDeck, deck, gathered, DESK, (1,) * size, deck)


class SheetForTest(Case):
    def test_the_examples(self):
        self.told([(0, 1, 0), None], [sheet_for(DESK, SORT), sheet_for(DESK, (((1,), -1), ((0,), 1)))])

    def test_the_least_of_all_sheets_of_small_sizes(self):
        for desk in (*DESKS, ("tray", "pile", "pile", "tray"), ("pile", "tray", "tray", "pile", "tray")):
            for size, throws in THROWS.items():
                least = {}
                for sheet in product(range(len(desk)), repeat=size):
                    least.setdefault(throw_by(desk, sheet), sheet)
                for throw in throws:
                    self.told(least.get(throw), sheet_for(desk, throw))

    def test_many_lots(self):
        self.told(None, sheet_for(SIX, SINGLES))
        self.told((0, 1, 2, 3, 4, 5), sheet_for(SIX, SINGLES[:6]))
        self.told(None, sheet_for(SIX[::-1], SINGLES[:6]))
        self.told((1, 2, 3, 4, 5), sheet_for(SIX[::-1], SINGLES[:5]))
        self.told((5,) * 8, sheet_for(("tray",) * 5 + ("pile",), ((tuple(range(8)), -1),)))
        self.told((2, 2, 2, 2, 0, 0, 0, 0),
                  sheet_for(("pile", "tray", "pile"), (((4, 5, 6, 7), -1), ((0, 1, 2, 3), -1))))

    def test_any_value_that_is_no_desk(self):
        for desk in NO_DESKS:
            self.refused(BadDesk, desk, sheet_for, desk, SORT)
            self.refused(BadDesk, desk, sheet_for, desk, None)

    def test_any_value_that_is_no_throw(self):
        for throw in NO_THROWS:
            self.refused(BadThrow, throw, sheet_for, DESK, throw)


if __name__ == "__main__":
    unittest.main()
