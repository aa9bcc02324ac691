"""The examples of the document, as it shows them."""

import unittest

from lotthrows.decks import (
    counts_of, deck_text, is_deck, is_order, laid, opposite, read_deck, together, undone_order,
)
from lotthrows.throws import (
    deck_after, is_throw, lot_of, order_after, read_throw, size_of, still, throw_text, turning, way_of,
)
from helpers import Case


class ExamplesTest(Case):
    def test_part_1(self):
        self.told(
            [True, False, True, True, False, (2, 2, 1)],
            [is_deck(2, (0, 1, 1)), is_deck(2, (0, 2)), is_deck(1, ()), is_order(3, (2, 0, 1)), is_order(2, (0, 2)),
             counts_of(3, (1, 0, 2, 1, 0))])
        self.told(
            [(0, 2, 0, 1, 1), (0, 2, 1), (2, 0, 1), (0, 2, 1), '102', ()],
            [laid((1, 0, 2, 1, 0), (1, 2, 4, 3, 0)), together((1, 2, 0), (2, 1, 0)), undone_order((1, 2, 0)),
             opposite((1, 2, 0)), deck_text((1, 0, 2)), read_deck("-")])

    def test_part_2_throws(self):
        sort = (((0, 2), 1), ((1,), -1))
        self.told(
            [True, False, 3, (1, 2, 4, 3, 0), (0, 2, 0, 1, 1), 1],
            [is_throw(sort), is_throw((((0, 1), 1), ((1,), 1))), size_of(sort), order_after(sort, (1, 0, 2, 1, 0)),
             deck_after(sort, (1, 0, 2, 1, 0)), lot_of(sort, 1)])
        self.told(
            ['ahead', 'behind', 'kept', 'turned', (((0, 1), 1),), (((0,), -1),), '02+ 1-', (((1,), -1), ((0,), 1))],
            [way_of(sort, 0, 1), way_of(sort, 1, 2), way_of(sort, 0, 2), way_of(sort, 1, 1), still(2), turning(1),
             throw_text(sort), read_throw("1- 0+")])


if __name__ == "__main__":
    unittest.main()
