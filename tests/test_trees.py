import unittest
from itertools import combinations, combinations_with_replacement, product
from random import Random

from lotthrows.errors import BadCounts, BadDeck, BadDesk, BadThrow, BadTree
from lotthrows.trees import best_tree, handlings, is_tree, least_handlings, order_by_tree
from lotthrows.throws import order_after, size_of, still, turning
from helpers import (
    INTEGERS, NO_DECKS, NO_THROWS, NOTHING_VALID, SINGLES, SORT, STRINGS, THROWS, Case, drawn_throw, near, telling_deck,
)
from test_sheets import DESKS, NO_DESKS, SIX

PAIR, FOUR = ("tray", "pile"), (((0,), 1), ((1,), 1), ((2,), -1), ((3,), 1))
TREE = ((0, ((0, 0), (1, ((1, 1),)))), (1, ((0, 2), (1, 3))))
PILES = ("pile", "pile")
KEPT_TWO = (((0,), 1), ((1,), 1))
NO_TREES = NOTHING_VALID + STRINGS + INTEGERS + (
    (), ((),), ((0, 0),), ((0, 0), (1, 1)), ((0, (0, 1, 2, 3)),), (0, 1, 2, 3), ((0, 1, 2, 3),), ((0, ((0, 0),)), 1),
    list(TREE), (list(TREE[0]), TREE[1]), ((0, [(0, 0), (1, ((1, 1),))]), TREE[1]),
    ((False, TREE[0][1]), TREE[1]), (TREE[0], (True, TREE[1][1])), (TREE[0], (1, ((0, 2), (True, 3)))),
    ((0, ((0, False), (1, ((1, True),)))), TREE[1]), (TREE[0], (1, ((0, 2), (1, True)))),
    TREE[::-1], (TREE[0],), (TREE[1],), TREE + (TREE[0],), (TREE[0], TREE[0]), (TREE[1], TREE[0]),
    (TREE[0], (2, TREE[1][1])), ((-1, TREE[0][1]), TREE[1]), ((0, TREE[1][1]), (1, TREE[0][1])),
    (TREE[0], TREE[1] + (0,)), (TREE[0], TREE[1][:1]), (TREE[0] + (1,), TREE[1]), ("tray", "pile"),
    (("tray", TREE[0][1]), ("pile", TREE[1][1])), {0: TREE[0][1], 1: TREE[1][1]}, ((0, 0), (1, None)),
    ((0, ()), (1, ())),
    (TREE[0], (1, ((0, 2), (1, 4)))), (TREE[0], (1, ((0, 2), (1, -1)))), (TREE[0], (1, ((0, 2), (1, 2)))),
    (TREE[0], (1, ((0, 3), (1, 2)))), (TREE[0], (1, ((0, 2), (0, 3)))), (TREE[0], (1, ((1, 2), (0, 3)))),
    (TREE[0], (1, ((0, 2), (1, "3")))), (TREE[0], (1, ((0, 2), (1, ((), 3))))),
    ((0, TREE[0][1]), (10 ** 99, TREE[1][1])),
)
NO_COUNTS = NOTHING_VALID + STRINGS + INTEGERS + (
    (), (5,), (5, 1, 2), (5, 1, 2, 4, 1), [5, 1, 2, 4], (5, 1, 2, -1), (-1, 1, 2, 4), (5, 1, 2, 1000001),
    (5, 1, 2, True),
    (False, 1, 2, 4), (5, 1, 2, None), (5, "1", 2, 4), (5, 1, [2], 4), (5, 1, (2,), 4), ((5, 1, 2, 4),),
    {0: 5, 1: 1, 2: 2},
    (5, 1, 2, 10 ** 99), "5124", (5, 1, 2, {}), (0,) * 5, (0,) * 60,
)


def lots_with(signs):
    """The throw whose lots are single kinds, with these signs."""
    return tuple(((kind,), sign) for kind, sign in enumerate(signs))


def lots_in(tree):
    """The lots of a tree as it is read."""
    return [tree] if isinstance(tree, int) else [lot for _, inner in tree for lot in lots_in(inner)]


def done(desk, tree, lying):
    """The cards, pairs of a lot and a number, as they lie when a tree is done with them, and how many were thrown."""
    if isinstance(tree, int):
        return list(lying), 0
    places = [[] for _ in desk]
    at = {lot: place for place, inner in tree for lot in lots_in(inner)}
    for card in lying:
        place = at[card[0]]
        places[place].insert(len(places[place]) if desk[place] == "tray" else 0, card)
    thrown = len(lying)
    for place, inner in tree:
        places[place], more = done(desk, inner, places[place])
        thrown += more
    return sum(places, []), thrown


def lot_numbers(throw):
    return {kind: at for at, (lot, _) in enumerate(throw) for kind in lot}


def order_by_doing(desk, throw, tree, deck):
    """The order of a deck's cards when a tree is done, card by card."""
    at = lot_numbers(throw)
    return tuple(card for _, card in done(desk, tree, [(at[kind], card) for card, kind in enumerate(deck)])[0])


def handled_by_doing(desk, tree, counts):
    """How often cards are thrown when a tree is done with so many cards of each lot."""
    cards = [(lot, number) for lot, count in enumerate(counts) for number in range(count)]
    return done(desk, tree, cards)[1]


def handled(tree, counts):
    """The sum of the counts of the lots of each tuple of a tree, one tuple after the other."""
    if isinstance(tree, int):
        return 0
    return sum(counts[lot] for lot in lots_in(tree)) + sum(handled(inner, counts) for _, inner in tree)


def signs_of(desk, tree, lots):
    """The signs that lots have which come out as they lie when a tree is done, read off two cards of each."""
    order = order_by_doing(desk, lots_with((1,) * lots), tree, tuple(sorted(tuple(range(lots)) * 2)))
    return tuple(1 if order.index(2 * at) < order.index(2 * at + 1) else -1 for at in range(lots))


def parted_anyhow(desk, lots, depth):
    """All trees that have these lots in this row, nested so deep at the most, whatever sign they come out with."""
    if len(lots) == 1:
        yield lots[0]
    if depth == 0:
        return
    for parts in range(1, len(lots) + 1):
        for cuts in combinations(range(1, len(lots)), parts - 1):
            ends = (0, *cuts, len(lots))
            shares = [lots[low:high] for low, high in zip(ends, ends[1:])]
            inner = [list(parted_anyhow(desk, share, depth - 1)) for share in shares]
            for places in combinations(range(len(desk)), parts):
                for trees in product(*inner):
                    yield tuple(zip(places, trees))


def right_tree(desk, throw, tree):
    """Whether a value is a tree: whether it can be done, has few tuples, and sets a telling deck as the throw does."""
    deck = telling_deck(size_of(throw))
    return can_be_done(desk, tree) and lots_in(tree) == list(range(len(throw))) and (
        order_by_doing(desk, throw, tree, deck) == order_after(throw, deck))


def can_be_done(desk, tree):
    if not isinstance(tree, tuple):
        return type(tree) is int
    if not tree or not all(isinstance(pair, tuple) and len(pair) == 2 and type(pair[0]) is int for pair in tree):
        return False
    places = [place for place, _ in tree]
    return places == sorted(set(places)) and set(places) <= set(range(len(desk))) and (
        all(can_be_done(desk, inner) for _, inner in tree))


def chain(tuples, place, tree):
    """A tree within so many tuples, each with one pair."""
    for _ in range(tuples):
        tree = ((place, tree),)
    return tree


def least_by_relaxing(desk, throw, counts):
    """The least handlings, found by trying all partings of all stretches again and again until nothing gets less."""
    signs = [sign for _, sign in throw]
    best = {(at, at + 1, sign): 0 for at, sign in enumerate(signs)}
    changed = True
    while changed:
        changed = False
        for start, stop in combinations(range(len(throw) + 1), 2):
            for turn, places in product((1, -1), combinations_with_replacement(range(len(desk)), stop - start)):
                cost = sum(counts[start:stop])
                for place in set(places):
                    child = (start + places.index(place), start + places.index(place) + places.count(place))
                    cost += best.get(child + (turn if desk[place] == "tray" else -turn,), 10 ** 9)
                if cost < best.get((start, stop, turn), 10 ** 9):
                    best[start, stop, turn] = cost
                    changed = True
    return best.get((0, len(throw), 1))


def there_is_a_tree(desk, throw):
    signs = [sign for _, sign in throw]
    if len(signs) == 1:
        return signs[0] == 1 or "pile" in desk
    return len(desk) > 1 and (-1 not in signs or "pile" in desk)


class IsTreeTest(Case):
    def test_the_examples(self):
        self.told([True, False, True], [is_tree(PAIR, FOUR, TREE), is_tree(PAIR, FOUR, 0), is_tree(PAIR, still(2), 0)])

    def test_all_small_trees_against_doing_them(self):
        for desk in DESKS:
            for lots, depth in ((1, 4), (2, 3), (3, 2)):
                trees = list(parted_anyhow(desk, tuple(range(lots)), depth))
                for signs in product((1, -1), repeat=lots):
                    throw = lots_with(signs)
                    deck = telling_deck(lots)
                    after = order_after(throw, deck)
                    for tree in trees:
                        self.told(order_by_doing(desk, throw, tree, deck) == after, is_tree(desk, throw, tree))

    def test_lots_twice_or_left_out_or_not_ascending(self):
        for lots in product(range(4), repeat=3):
            tree = tuple((place, lot) for place, lot in enumerate(lots))
            self.told(lots == (0, 1, 2), is_tree(("tray",) * 3, lots_with((1, 1, 1)), tree))
            tree = ((0, ((0, lots[0]), (1, lots[1]))), (1, lots[2]))
            self.told(lots == (0, 1, 2), is_tree(("tray",) * 3, lots_with((1, 1, 1)), tree))
        self.told([False, False], [is_tree(("tray",) * 3, lots_with((1, 1, 1)), ((0, 0), (1, 1))),
                                   is_tree(("tray",) * 3, lots_with((1, 1)), ((0, 0), (1, 1), (2, 2)))])

    def test_places_not_ascending_or_none_of_the_desk(self):
        for places in product(range(-1, 5), repeat=2):
            tree = tuple(zip(places, (0, 1)))
            self.told(0 <= places[0] < places[1] <= 3, is_tree(("tray",) * 4, KEPT_TWO, tree))

    def test_an_integer_alone(self):
        for desk in (*DESKS, SIX):
            for size in (1, 2, 8):
                self.told([True, False], [is_tree(desk, still(size), 0), is_tree(desk, turning(size), 0)])
                self.told([False, False, False],
                          [is_tree(desk, still(size), tree) for tree in (1, -1, False)])
            self.told([False, False], [is_tree(desk, KEPT_TWO, 0), is_tree(desk, KEPT_TWO, 1)])

    def test_one_pair(self):
        for tuples in range(1, 17):
            self.told([True, tuples % 2 == 0, False, tuples % 2 == 1],
                      [is_tree(PAIR, still(3), chain(tuples, 0, 0)), is_tree(PAIR, still(3), chain(tuples, 1, 0)),
                       is_tree(PAIR, turning(3), chain(tuples, 0, 0)), is_tree(PAIR, turning(3), chain(tuples, 1, 0))])

    def test_a_pile_too_few_or_too_many(self):
        for at, lot in ((0, 0), (1, 2), (2, 1)):
            for more in range(4):
                tree = [(0, 0), (1, 1), (2, 2)]
                tree[at] = (at, chain(more, 1, at))
                self.told(more % 2 == 0, is_tree(("tray", "pile", "tray"), lots_with((1, -1, 1)), tuple(tree)))

    def test_tuples_without_pairs(self):
        for tree in ((), ((0, 0), (1, ())), ((0, ()), (1, ((1, 0),))), ((0, ((0, 0), (1, ()))),)):
            self.told(False, is_tree(PAIR, still(2), tree))

    def test_sixteen_deep_and_seventeen(self):
        for size in (1, 4):
            self.told([True, True, False, False],
                      [is_tree(PAIR, still(size), chain(deep, 0, 0)) for deep in (15, 16, 17, 18)])
        inner = ((0, 0), (1, 1))
        self.told([True, False], [is_tree(PAIR, lots_with((1, -1)), chain(deep, 0, inner)) for deep in (15, 16)])
        for at in range(2):
            tree = [(0, 0), (1, 1)]
            tree[at] = (at, chain(15, 0, at))
            self.told(True, is_tree(PAIR, lots_with((1, -1)), tuple(tree)))
            tree[at] = (at, chain(16, 0, at))
            self.told(False, is_tree(PAIR, lots_with((1, -1)), tuple(tree)))

    def test_sixty_tuples_and_sixty_one(self):
        trays = ("tray",) * 5
        for lengths, right in (((15, 15, 15, 14), True), ((15, 15, 15, 15), False), ((14, 15, 15, 15), True),
                               ((12, 12, 12, 12, 11), True), ((12, 12, 12, 12, 12), False)):
            tree = tuple((at, chain(length, 0, at)) for at, length in enumerate(lengths))
            self.told(right, is_tree(trays, lots_with((1,) * len(lengths)), tree))

    def test_lots_of_several_kinds(self):
        self.told([True, False, True], [is_tree(PAIR, SORT, ((0, 0), (1, 1))), is_tree(PAIR, SORT, ((0, 0), (1, 2))),
                                        is_tree(PAIR, turning(8), ((1, 0),))])

    def test_any_value_that_is_none(self):
        for tree in NO_TREES:
            self.told(False, is_tree(PAIR, FOUR, tree))

    def test_values_near_to_one(self):
        for desk, throw, tree in ((PAIR, FOUR, TREE), (PAIR, still(2), 0), (PAIR, SORT, ((0, 0), (1, 1))),
                                  (SIX, lots_with((1, 1)), ((2, 0), (3, ((1, 1),))))):
            for thing in near(tree) if tree else NOTHING_VALID:
                self.told(right_tree(desk, throw, thing), is_tree(desk, throw, thing), thing)

    def test_any_value_that_is_no_desk(self):
        for desk in NO_DESKS:
            self.refused(BadDesk, desk, is_tree, desk, FOUR, TREE)
            self.refused(BadDesk, desk, is_tree, desk, None, None)

    def test_any_value_that_is_no_throw(self):
        for throw in NO_THROWS:
            self.refused(BadThrow, throw, is_tree, PAIR, throw, TREE)
            self.refused(BadThrow, throw, is_tree, PAIR, throw, None)


class DoneTest(Case):
    def test_the_examples(self):
        self.told([25, (2, 1, 4, 3, 0, 5)],
                  [handlings(PAIR, FOUR, TREE, (5, 1, 2, 4)), order_by_tree(PAIR, FOUR, TREE, (3, 1, 0, 2, 1, 3))])

    def test_all_small_trees_against_doing_them(self):
        draw = Random(71)
        for desk in DESKS:
            for lots in (1, 2, 3):
                for tree in parted_anyhow(desk, tuple(range(lots)), 3 if len(desk) < 3 else 2):
                    throw = lots_with(signs_of(desk, tree, lots))
                    deck = tuple(draw.choices(range(lots), k=6))
                    counts = tuple(draw.choice((0, 1, 2, 5)) for _ in range(lots))
                    self.told(order_by_doing(desk, throw, tree, deck), order_by_tree(desk, throw, tree, deck))
                    self.told(order_after(throw, deck), order_by_tree(desk, throw, tree, deck))
                    self.told(handled_by_doing(desk, tree, counts), handlings(desk, throw, tree, counts))

    def test_a_lot_that_is_the_whole_tree(self):
        for size in (1, 3, 8):
            deck = telling_deck(size)
            self.told([tuple(range(2 * size)), 0],
                      [order_by_tree(PAIR, still(size), 0, deck), handlings(PAIR, still(size), 0, (9,))])

    def test_counts_of_zeros_and_of_a_million(self):
        self.told([0, 9000000, 3000000, 2],
                  [handlings(PAIR, FOUR, TREE, counts)
                   for counts in ((0,) * 4, (1000000,) * 4, (0, 1000000, 0, 0), (0, 0, 0, 1))])
        deep = chain(14, 0, ((0, 0), (1, ((1, 1),))))
        self.told([31000000, 15000000, 16], [handlings(PAIR, KEPT_TWO, deep, counts)
                                             for counts in ((1000000,) * 2, (1000000, 0), (0, 1))])

    def test_decks_without_cards_and_with_sixty(self):
        self.told((), order_by_tree(PAIR, FOUR, TREE, ()))
        deck = (3, 2, 1, 0, 0, 3) * 10
        self.told(order_by_doing(PAIR, FOUR, TREE, deck), order_by_tree(PAIR, FOUR, TREE, deck))

    def test_any_value_that_is_none(self):
        for desk in NO_DESKS:
            self.refused(BadDesk, desk, handlings, desk, FOUR, TREE, (5, 1, 2, 4))
            self.refused(BadDesk, desk, order_by_tree, desk, None, None, None)
        for throw in NO_THROWS:
            self.refused(BadThrow, throw, handlings, PAIR, throw, None, None)
            self.refused(BadThrow, throw, order_by_tree, PAIR, throw, TREE, ())
        for tree in NO_TREES:
            self.refused(BadTree, tree, handlings, PAIR, FOUR, tree, (5, 1, 2, 4))
            self.refused(BadTree, tree, handlings, PAIR, FOUR, tree, None)
            self.refused(BadTree, tree, order_by_tree, PAIR, FOUR, tree, ())
            self.refused(BadTree, tree, order_by_tree, PAIR, FOUR, tree, None)
        for counts in NO_COUNTS:
            self.refused(BadCounts, counts, handlings, PAIR, FOUR, TREE, counts)
        for deck in NO_DECKS + ((4,), (0, 1, 4)):
            self.refused(BadDeck, deck, order_by_tree, PAIR, FOUR, TREE, deck)


class BestTreeTest(Case):
    def judged_rightly(self, desk, throw, counts, least):
        tree = best_tree(desk, throw, counts)
        self.told(least, least_handlings(desk, throw, counts), (desk, throw, counts))
        self.told(there_is_a_tree(desk, throw), tree is not None)
        if tree is None:
            self.told(None, least)
        else:
            self.told([True, least], [is_tree(desk, throw, tree), handlings(desk, throw, tree, counts)])
            deck = telling_deck(size_of(throw))
            self.told(order_after(throw, deck), order_by_doing(desk, throw, tree, deck))

    def test_the_examples(self):
        turned, kept = (((0,), 1), ((1,), -1)), KEPT_TWO
        self.told([10, 13, 17, None, ((0, 0), (1, 1))],
                  [least_handlings(PAIR, turned, (7, 3)), least_handlings(PAIR, kept, (7, 3)),
                   least_handlings(PAIR, kept, (3, 7)),
                   least_handlings(("tray", "tray"), (((0,), -1), ((1,), 1)), (1, 1)), best_tree(PAIR, turned, (7, 3))])

    def test_against_all_trees(self):
        for desk in DESKS:
            for lots, depth in ((1, 4), (2, 4), (3, 4))[:3 if desk in (PAIR, PILES) else 2]:
                trees = [(signs_of(desk, tree, lots), tree) for tree in parted_anyhow(desk, tuple(range(lots)), depth)]
                for counts in ((1, 1, 1), (0, 0, 0), (3, 1, 7), (5, 0, 2), (0, 1000000, 0))[:5 if lots < 3 else 3]:
                    counts = counts[:lots]
                    costs = {}
                    for signs, tree in trees:
                        costs.setdefault(signs, []).append(handled(tree, counts))
                    for signs in product((1, -1), repeat=lots):
                        least = min(costs[signs]) if signs in costs else None
                        self.judged_rightly(desk, lots_with(signs), counts, least)

    def test_all_signs_of_more_lots(self):
        draw = Random(72)
        for desk in (PAIR, PAIR[::-1], PILES, ("tray", "tray"), ("pile", "tray", "pile")):
            for lots in (4, 5):
                for signs in product((1, -1), repeat=lots):
                    counts = tuple(draw.choice((0, 1, 2, 9, 40)) for _ in range(lots))
                    throw = lots_with(signs)
                    self.judged_rightly(desk, throw, counts, least_by_relaxing(desk, throw, counts))

    def test_eight_lots(self):
        draw = Random(73)
        for desk in (PAIR, PILES, ("tray", "tray"), ("pile", "tray", "pile")):
            for _ in range(2):
                throw = lots_with(draw.choices((1, -1), k=8))
                counts = tuple(draw.choice((0, 1, 2, 30, 1000000)) for _ in range(8))
                self.judged_rightly(desk, throw, counts, least_by_relaxing(desk, throw, counts))

    def test_eight_lots_on_six_places(self):
        draw = Random(74)
        for desk in (SIX, SIX[::-1], ("tray",) * 6, ("pile",) * 6, ("tray",) * 5 + ("pile",)):
            throw = lots_with(draw.choices((1, -1), k=8))
            counts = tuple(draw.randrange(1000001) for _ in range(8))
            self.judged_rightly(desk, throw, counts, least_by_relaxing(desk, throw, counts))
        self.told(8 + 3, least_handlings(("tray",) * 6, lots_with((1,) * 8), (1,) * 8))
        self.told(8, least_handlings(SIX, lots_with((1, -1) * 3), (2, 1, 1, 2, 1, 1)))

    def test_lots_that_come_to_piles_turned(self):
        throw = lots_with((-1, 1, -1, 1))
        self.told(least_by_relaxing(PILES, throw, (1, 9, 1, 9)), least_handlings(PILES, throw, (1, 9, 1, 9)))
        self.told([8, 4], [least_handlings(PILES, lots_with((1, 1)), (2, 2)),
                           least_handlings(PILES, lots_with((-1, -1)), (2, 2))])

    def test_when_there_is_a_tree(self):
        for desk in (*DESKS, SIX, ("pile",) * 6):
            for size in (1, 2, 3):
                for throw in THROWS[size]:
                    counts = (1,) * len(throw)
                    self.told(there_is_a_tree(desk, throw), best_tree(desk, throw, counts) is not None)
                    self.told(there_is_a_tree(desk, throw), least_handlings(desk, throw, counts) is not None)

    def test_one_lot(self):
        for desk in (*DESKS, SIX):
            self.told([0, 0], [best_tree(desk, still(3), (7,)), least_handlings(desk, still(3), (7,))])
            self.told(7 if "pile" in desk else None, least_handlings(desk, turning(3), (7,)))
        self.told([((1, 0),), None], [best_tree(PAIR, turning(3), (0,)), best_tree(("tray",), turning(3), (0,))])

    def test_lots_of_several_kinds_count_as_one(self):
        draw = Random(75)
        for size in range(2, 9):
            throw = drawn_throw(size, draw)
            counts = tuple(draw.randrange(10) for _ in throw)
            same = lots_with([sign for _, sign in throw])
            self.told(least_handlings(PAIR, same, counts), least_handlings(PAIR, throw, counts))
            self.judged_rightly(PAIR, throw, counts, least_handlings(PAIR, throw, counts))
        self.told(least_handlings(PAIR, SINGLES, (0,) * 8), 0)

    def test_any_value_that_is_none(self):
        for function in (best_tree, least_handlings):
            for desk in NO_DESKS:
                self.refused(BadDesk, desk, function, desk, FOUR, (5, 1, 2, 4))
                self.refused(BadDesk, desk, function, desk, None, None)
            for throw in NO_THROWS:
                self.refused(BadThrow, throw, function, PAIR, throw, (5, 1, 2, 4))
                self.refused(BadThrow, throw, function, PAIR, throw, None)
            for counts in NO_COUNTS:
                self.refused(BadCounts, counts, function, PAIR, FOUR, counts)
                # Wrong counts are told even where there is no tree.
                self.refused(BadCounts, counts, function, ("tray",), FOUR, counts)


if __name__ == "__main__":
    unittest.main()
