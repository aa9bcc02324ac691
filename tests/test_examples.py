"""The examples of the document, as it shows them."""

import unittest

from lotthrows.decks import (
    counts_of, deck_text, is_deck, is_order, laid, opposite, read_deck, together, undone_order,
)
from lotthrows.outcomes import all_in, can_come, went_in
from lotthrows.rows import behind_holds, both, judge_ahead, judge_behind, judge_undone, power, row_of, undone_holds
from lotthrows.sheets import gathered, is_desk, is_sheet, sheet_for, throw_by
from lotthrows.tables import (
    is_ring, is_table, judge_table, order_by_table, table_holds, table_of, tables_number,
)
from lotthrows.throws import (
    deck_after, is_throw, lot_of, order_after, read_throw, size_of, still, throw_text, turning, way_of,
)
from helpers import SORT, Case


class ExamplesTest(Case):
    def test_part_1(self):
        self.told(
            [True, False, True, True, False, (2, 2, 1)],
            [is_deck(2, (0, 1, 1)), is_deck(2, (0, 2)), is_deck(1, ()), is_order(3, (2, 0, 1)), is_order(2, (0, 2)),
             counts_of(3, (1, 0, 2, 1, 0))])
        self.told(
            [(0, 2, 0, 1, 1), (0, 2, 1), (2, 0, 1), (0, 2, 1), '102', ()],
            [laid((1, 0, 2, 1, 0), (1, 2, 4, 3, 0)), together((1, 2, 0), (2, 1, 0)), undone_order((1, 2, 0)),
             opposite((1, 2, 0)), deck_text((1, 0, 2)), read_deck("-")])

    def test_part_2_throws(self):
        sort = (((0, 2), 1), ((1,), -1))
        self.told(
            [True, False, 3, (1, 2, 4, 3, 0), (0, 2, 0, 1, 1), 1],
            [is_throw(sort), is_throw((((0, 1), 1), ((1,), 1))), size_of(sort), order_after(sort, (1, 0, 2, 1, 0)),
             deck_after(sort, (1, 0, 2, 1, 0)), lot_of(sort, 1)])
        self.told(
            ['ahead', 'behind', 'kept', 'turned', (((0, 1), 1),), (((0,), -1),), '02+ 1-', (((1,), -1), ((0,), 1))],
            [way_of(sort, 0, 1), way_of(sort, 1, 2), way_of(sort, 0, 2), way_of(sort, 1, 1), still(2), turning(1),
             throw_text(sort), read_throw("1- 0+")])

    def test_part_2_sheets(self):
        desk = ("tray", "pile")
        self.told(
            [True, False, (((0, 2), 1), ((1,), -1)), ((1, 2, 4), (3, 0)), (0, 1, 0), None],
            [is_desk(desk), is_sheet(desk, (0, 2)), throw_by(desk, (0, 1, 0)), gathered(desk, (0, 1, 0), (1, 0, 2, 1, 0)),
             sheet_for(desk, SORT), sheet_for(desk, (((1,), -1), ((0,), 1)))])

    def test_part_3(self):
        mixed = (("kept", "kept", "turned"), ("kept", "kept", "kept"), ("turned", "kept", "kept"))
        self.told(
            [(('kept', 'ahead', 'kept'), ('behind', 'turned', 'behind'), ('kept', 'ahead', 'kept')),
             ('throw', (((0, 2), 1), ((1,), -1))), True, 'ring', True, True, False],
            [table_of(SORT), judge_table(table_of(SORT)), is_table(mixed), judge_table(mixed)[0], is_ring(mixed, (2, 1, 0)),
             is_ring(mixed, (0, 1, 2)), is_ring(mixed, (0, 2, 1))])
        self.told(
            [(0, 1, 2), None, (1, 2, 4, 3, 0), 512, True],
            [order_by_table(mixed, (0, 1, 1)), order_by_table(mixed, (0, 1, 2)),
             order_by_table(table_of(SORT), (1, 0, 2, 1, 0)), tables_number(3), table_holds(mixed, ("ring", (2, 1, 0)))])

    def test_part_4_rows(self):
        back = (((1, 2), -1), ((0,), 1))
        self.told(
            [(((1,), 1), ((2,), -1), ((0,), 1)), (((2,), -1), ((0,), 1), ((1,), -1)), (((0, 1), 1),),
             (((0, 2), 1), ((1,), 1)), True, (((0, 1, 2), 1),)],
            [both(SORT, back), row_of(3, (SORT, back, SORT)), row_of(2, ()), power(SORT, 2),
             power(SORT, 10 ** 30 + 1) == SORT, power(SORT, 0)])
        self.told(
            [('undone', (((0, 1), -1),)), True, ('parted', 1, 2), 'set', True],
            [judge_undone((((0, 1), -1),)), undone_holds(SORT, ("lost", 0, 1)), judge_behind(SORT, back),
             judge_ahead(SORT, back)[0], behind_holds(SORT, both(SORT, back), ("throw", back))])

    def test_part_4_outcomes(self):
        self.told(
            [True, False, 3, ((1, 2, 0), (2, 0, 1), (2, 1, 0)), 0],
            [can_come(SORT, (0, 2, 1)), can_come(SORT, (0, 1, 2)), went_in(SORT, (2, 0, 1)), all_in(SORT, (2, 0, 1)),
             went_in(SORT, (0, 1, 2))])


if __name__ == "__main__":
    unittest.main()
