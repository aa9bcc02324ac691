import unittest
from itertools import combinations, permutations, product
from random import Random

from lotthrows.errors import BadDeck, BadSize, BadTable, BadThrow
from lotthrows.tables import (
    is_ring, is_table, judge_table, order_by_table, table_holds, table_of, tables_number,
)
from lotthrows.throws import is_throw, order_after, size_of, still, turning, way_of
from helpers import (
    INTEGERS, NO_DECKS, NO_SIZES, NO_THROWS, NOTHING_VALID, SINGLES, SORT, STRINGS, THROWS, Case, drawn_throw, near,
)

WAYS = ("ahead", "behind", "kept", "turned")
BACK = {"ahead": "behind", "behind": "ahead", "kept": "kept", "turned": "turned"}
MIXED = (("kept", "kept", "turned"), ("kept", "kept", "kept"), ("turned", "kept", "kept"))
# No three cards of three kinds, and no three of one kind, fall out in a ring here.
BY_TWO_OF_A_KIND = (("kept", "kept"), ("kept", "turned"))
NO_TABLES = NOTHING_VALID + STRINGS + INTEGERS + (
    (), ((),), ("kept",), (("ahead",),), (("behind",),), (("Kept",),), (("kept ",),), ((None,),), ((1,),), ((True,),),
    (("kept", "kept"),), (("kept",), ("kept",)), [("kept",)], (["kept"],), [["kept"]], ((("kept",),),), {"kept": 1},
    (("kept", "ahead"), ("ahead", "kept")), (("kept", "kept"), ("turned", "kept")),
    (("kept", "ahead"), ("kept", "kept")),
    (("kept", "ahead"), ("behind", "ahead")), (("kept", "ahead"), ("behind",)), (("kept", "ahead"), ["behind", "kept"]),
    (("kept", "ahead", "kept"), ("behind", "kept", "kept")), (("kept", {}), ([], "kept")), ("kept", "kept"),
    (("kept", "ahead"), "behind"), (("kept", ("ahead",)), (("behind",), "kept")), "kept",
    (("kept", "a"), ("a", "kept")),
    (("kept",) * 9,) * 9, (("kept",) * 2000,), (("kept", "kept"), ("kept", None)), SORT, (SORT,), ((0, 1), (1, 0)),
)


def all_tables(size):
    """All tables of a size."""
    pairs = list(combinations(range(size), 2))
    for own in product(("kept", "turned"), repeat=size):
        for ways in product(WAYS, repeat=len(pairs)):
            yield made_table(size, own, dict(zip(pairs, ways)))


def made_table(size, own, way):
    """The table with the ways of the kinds with themselves, and of those pairs whose first kind is the less one."""
    cells = {(kind, kind): own[kind] for kind in range(size)}
    for (a, b), ahead in way.items():
        cells[a, b] = ahead
        cells[b, a] = BACK[ahead]
    return tuple(tuple(cells[a, b] for b in range(size)) for a in range(size))


def drawn_table(size, draw):
    """Any table of a size."""
    pairs = combinations(range(size), 2)
    return made_table(size, draw.choices(("kept", "turned"), k=size), {pair: draw.choice(WAYS) for pair in pairs})


def is_set(table, deck, order):
    """Whether all cards lie in an order as the table sets them."""
    place = {card: at for at, card in enumerate(order)}
    return all((place[i] < place[j]) == (table[deck[i]][deck[j]] in ("ahead", "kept"))
               for i, j in combinations(range(len(deck)), 2))


def order_found(table, deck):
    """The order in which all cards lie as the table sets them, found by trying; None if there is none."""
    found = [order for order in permutations(range(len(deck))) if is_set(table, deck, order)]
    assert len(found) <= 1
    return found[0] if found else None


def rings_found(table):
    """All decks of three cards that no order satisfies."""
    return [deck for deck in product(range(len(table)), repeat=3) if order_found(table, deck) is None]


SMALL_TABLES = [table for size in (1, 2, 3) for table in all_tables(size)]


class IsTableTest(Case):
    def test_the_example(self):
        self.told(True, is_table(MIXED))

    def test_all_rows_of_ways_of_one_kind_and_of_two(self):
        for way in WAYS:
            self.told(way in ("kept", "turned"), is_table(((way,),)))
        right = set(all_tables(2))
        for a, b, c, d in product(WAYS, repeat=4):
            table = ((a, b), (c, d))
            self.told(table in right, is_table(table))

    def test_each_table_is_one_and_with_one_way_changed_it_is_none(self):
        draw = Random(1)
        for size in range(1, 9):
            table = drawn_table(size, draw)
            self.told(True, is_table(table))
            for a, b, way in product(range(size), range(size), WAYS):
                row = table[a][:b] + (way,) + table[a][b + 1:]
                changed = table[:a] + (row,) + table[a + 1:]
                right = changed == table or a == b and way in ("kept", "turned")
                self.told(right, is_table(changed))

    def test_nine_kinds(self):
        self.told([True, False], [is_table((("kept",) * 8,) * 8), is_table((("kept",) * 9,) * 9)])

    def test_any_value_that_is_none(self):
        for thing in NO_TABLES:
            self.told(False, is_table(thing))

    def test_values_near_to_one(self):
        right = {repr(table) for table in SMALL_TABLES}
        for table in (MIXED, (("kept",),), BY_TWO_OF_A_KIND, table_of(SORT)):
            for thing in near(table):
                self.told(repr(thing) in right, is_table(thing), thing)


class TableOfTest(Case):
    def test_the_example(self):
        self.told((('kept', 'ahead', 'kept'), ('behind', 'turned', 'behind'), ('kept', 'ahead', 'kept')),
                  table_of(SORT))

    def test_it_has_the_ways_of_the_throw(self):
        draw = Random(2)
        throws = [throw for size in THROWS for throw in THROWS[size]] + [SINGLES, still(8), turning(8)]
        for throw in throws + [drawn_throw(size, draw) for size in range(4, 9) for _ in range(5)]:
            table = table_of(throw)
            self.told(True, is_table(table))
            self.told(size_of(throw), len(table))
            for a, b in product(range(len(table)), repeat=2):
                self.told(way_of(throw, a, b), table[a][b])

    def test_any_value_that_is_no_throw(self):
        for throw in NO_THROWS:
            self.refused(BadThrow, throw, table_of, throw)


class RingTest(Case):
    def test_the_examples(self):
        self.told([True, True, False],
                  [is_ring(MIXED, (2, 1, 0)), is_ring(MIXED, (0, 1, 2)), is_ring(MIXED, (0, 2, 1))])

    def test_all_decks_of_three_cards_of_small_sizes(self):
        for table in SMALL_TABLES:
            rings = rings_found(table)
            for deck in product(range(len(table)), repeat=3):
                self.told(deck in rings, is_ring(table, deck))

    def test_a_ring_by_two_cards_of_a_kind(self):
        rings = [deck for deck in product((0, 1), repeat=3) if is_ring(BY_TWO_OF_A_KIND, deck)]
        self.told([(1, 0, 1)], rings)

    def test_decks_of_another_number_of_cards_and_of_other_kinds(self):
        for thing in NO_DECKS + ((), (2, 1), (2, 1, 0, 0), (2, 1, 0, 2, 1, 0), [2, 1, 0], (3, 1, 0), (2, True, 0),
                                 (2, 1, False), (2, 1, -3), ((2, 1, 0),), ("2", "1", "0"), "210", (2, 1, [0])):
            self.told(False, is_ring(MIXED, thing))

    def test_any_value_that_is_no_table(self):
        for table in NO_TABLES:
            self.refused(BadTable, table, is_ring, table, (0, 0, 0))
            self.refused(BadTable, table, is_ring, table, None)


class JudgeTest(Case):
    def test_the_examples(self):
        self.told([('throw', (((0, 2), 1), ((1,), -1))), 'ring', True],
                  [judge_table(table_of(SORT)), judge_table(MIXED)[0], table_holds(MIXED, ("ring", (2, 1, 0)))])

    def test_all_tables_of_small_sizes_against_their_decks_of_three_cards(self):
        for table in SMALL_TABLES:
            size = len(table)
            rings = rings_found(table)
            throws = [throw for throw in THROWS[size] if table_of(throw) == table]
            self.assertEqual(len(throws), 0 if rings else 1)
            judged = judge_table(table)
            self.told("ring" if rings else "throw", judged[0])
            self.assertIn(judged[1], rings or throws)
            for deck in product(range(size), repeat=3):
                self.told(deck in rings, table_holds(table, ("ring", deck)))
            for throw in (*throws, judged[1], still(size), turning(size), still(size + 1)):
                self.told(throw in throws, table_holds(table, ("throw", throw)))

    def test_just_the_right_certificates_hold(self):
        candidates = [("throw", throw) for size in THROWS for throw in THROWS[size]]
        candidates += [("ring", deck) for deck in product(range(-1, 4), repeat=3)]
        for table in [*all_tables(1), *all_tables(2), MIXED, table_of(SORT)]:
            right = [("ring", ring) for ring in rings_found(table)]
            right += [("throw", throw) for throw in THROWS[len(table)] if table_of(throw) == table]
            judged = judge_table(table)
            self.only_right_ones_hold(right, candidates, judged, table_holds, table)
        self.told(False, table_holds(MIXED, ["ring", (2, 1, 0)]))
        self.told(False, table_holds(MIXED, ("ring", [2, 1, 0])))
        self.told(False, table_holds(MIXED, ("ring", 2, 1, 0)))
        self.told(False, table_holds(MIXED, ("throw", (2, 1, 0))))
        self.told(False, table_holds(table_of(SORT), ("ring", SORT)))

    def test_larger_sizes(self):
        draw = Random(3)
        for size in range(4, 9):
            for _ in range(6):
                throw = drawn_throw(size, draw)
                table = table_of(throw)
                self.told(("throw", throw), judge_table(table))
                self.told(True, table_holds(table, ("throw", throw)))
                changed = throw[1:] + ((throw[0][0], -throw[0][1]),)
                self.told(False, table_holds(table, ("throw", changed)))
            table = drawn_table(size, draw)
            judged = judge_table(table)
            self.told(rings_found(table) != [], judged[0] == "ring")
            self.told(True, table_holds(table, judged))

    def test_no_kinds_but_the_last_ones_fall_out(self):
        for size in range(3, 9):
            ways = {(a, b): "ahead" for a, b in combinations(range(size), 2)}
            ways[size - 3, size - 1] = "behind"
            table = made_table(size, ("kept",) * size, ways)
            kind, ring = judge_table(table)
            self.told("ring", kind)
            self.told([size - 3, size - 2, size - 1], sorted(ring))
            self.told(True, table_holds(table, ("ring", ring)))

    def test_any_value_that_is_no_table(self):
        for table in NO_TABLES:
            self.refused(BadTable, table, judge_table, table)
            self.refused(BadTable, table, table_holds, table, ("ring", (0, 0, 0)))
            self.refused(BadTable, table, table_holds, table, None)


class OrderTest(Case):
    def test_the_examples(self):
        self.told([(0, 1, 2), None, (1, 2, 4, 3, 0)],
                  [order_by_table(MIXED, (0, 1, 1)), order_by_table(MIXED, (0, 1, 2)),
                   order_by_table(table_of(SORT), (1, 0, 2, 1, 0))])

    def test_all_small_decks_by_trying_all_orders(self):
        tables = [*all_tables(1), *all_tables(2), *list(all_tables(3))[::37], MIXED]
        for table in tables:
            rings = rings_found(table)
            for length in range(5):
                for deck in product(range(len(table)), repeat=length):
                    order = order_by_table(table, deck)
                    self.told(order_found(table, deck), order)
                    self.told(order is None, any(three in rings for three in combinations(deck, 3)))

    def test_by_the_table_of_a_throw_it_is_the_order_after_the_throw(self):
        draw = Random(4)
        for size in range(1, 9):
            for _ in range(5):
                throw = drawn_throw(size, draw)
                deck = tuple(draw.choices(range(size), k=60))
                self.told(order_after(throw, deck), order_by_table(table_of(throw), deck))
                self.told(True, is_throw(throw))

    def test_no_cards_one_and_sixty(self):
        self.told([(), (0,)], [order_by_table(MIXED, ()), order_by_table(MIXED, (2,))])
        self.told(None, order_by_table(MIXED, (0,) * 57 + (2, 1, 0)))
        self.told(None, order_by_table(BY_TWO_OF_A_KIND, (0,) * 29 + (1, 0, 1) + (0,) * 28))
        self.told(tuple(range(59)) + (59,), order_by_table(BY_TWO_OF_A_KIND, (0,) * 59 + (1,)))
        self.told(tuple(range(60))[::-1], order_by_table(BY_TWO_OF_A_KIND, (1,) * 60))

    def test_any_value_that_is_no_table(self):
        for table in NO_TABLES:
            self.refused(BadTable, table, order_by_table, table, ())
            self.refused(BadTable, table, order_by_table, table, None)

    def test_any_value_that_is_no_deck_of_the_size_of_the_table(self):
        for deck in NO_DECKS + ((3,), (0, 3)):
            self.refused(BadDeck, deck, order_by_table, MIXED, deck)


class NumberTest(Case):
    def test_the_example(self):
        self.told(512, tables_number(3))

    def test_as_many_as_there_are(self):
        for size in (1, 2, 3):
            self.told(len(set(all_tables(size))), tables_number(size))
        for size in range(1, 9):
            self.told(2 ** size * 4 ** (size * (size - 1) // 2), tables_number(size))

    def test_any_value_that_is_no_size(self):
        for size in NO_SIZES:
            self.refused(BadSize, size, tables_number, size)


if __name__ == "__main__":
    unittest.main()
