import unittest
from itertools import permutations, product
from random import Random
from time import perf_counter

from lotthrows.errors import BadDeck, BadFacts, BadSize, Unfit
from lotthrows.facts import facts_hold
from lotthrows.probes import judge_test, least_test, looks_left, test_holds
from lotthrows.throws import order_after, still, turning
from helpers import NO_DECKS, NO_SIZES, THROWS, Case, all_throws, drawn_throw
from test_facts import CROSSED, NO_FACTS, PARTED, SEEN, drawn_facts, fitting

KEPT_TWO = (((0,), 1), ((1,), 1))


def by_orders(size, deck, throws):
    """The throws in groups that give a deck the same order."""
    groups = {}
    for throw in throws:
        groups.setdefault(order_after(throw, deck), []).append(throw)
    return list(groups.values())


def looks_by_trying(size, facts, deck):
    """The orders that the throws which fit give a deck, ascending, with their numbers."""
    orders = [order_after(throw, deck) for throw in fitting(size, facts, THROWS[size])]
    return tuple((order, orders.count(order)) for order in sorted(set(orders)))


def tells_by_pairs(size, deck):
    """Whether each kind stands twice and each ahead of each other one."""
    pairs = {(a, b) for at, a in enumerate(deck) for b in deck[at + 1:]}
    return pairs >= set(product(range(size), repeat=2))


class JudgeTestTest(Case):
    def test_the_examples(self):
        self.told([('tells',), 'same', True, (0, 0)],
                  [judge_test(2, (0, 1, 1, 0)), judge_test(2, (0, 0, 1, 1))[0],
                   test_holds(2, (0, 0, 1, 1), ('same', KEPT_TWO, still(2))), least_test(1)])

    def judged_rightly(self, size, deck, tells):
        judged = judge_test(size, deck)
        self.told("tells" if tells else "same", judged[0], deck)
        self.told([True, tells], [test_holds(size, deck, judged), test_holds(size, deck, ("tells",))])
        if not tells:
            _, one, other = judged
            self.assertNotEqual(one, other)
            self.told(order_after(one, deck), order_after(other, deck))

    def test_all_small_decks_against_giving_all_throws_their_orders(self):
        for size, longest in ((1, 6), (2, 6), (3, 4)):
            for cards in range(longest + 1):
                for deck in product(range(size), repeat=cards):
                    tells = len(by_orders(size, deck, THROWS[size])) == len(THROWS[size])
                    self.assertEqual(tells, tells_by_pairs(size, deck))
                    self.judged_rightly(size, deck, tells)

    def test_six_cards_of_three_kinds(self):
        telling = 0
        for deck in sorted(set(permutations((0, 0, 1, 1, 2, 2)))):
            tells = len(by_orders(3, deck, THROWS[3])) == len(THROWS[3])
            telling += tells
            self.judged_rightly(3, deck, tells)
        self.assertGreater(telling, 0)

    def test_no_deck_of_fewer_cards_tells_all_throws(self):
        for size in (1, 2, 3):
            for deck in product(range(size), repeat=2 * size - 1):
                self.told("same", judge_test(size, deck)[0])

    def test_larger_decks(self):
        draw = Random(85)
        found = set()
        for size in range(4, 9):
            for cards in (2 * size, 24, 60):
                deck = tuple(draw.choices(range(size), k=cards))
                self.judged_rightly(size, deck, tells_by_pairs(size, deck))
                found.add(tells_by_pairs(size, deck))
                self.judged_rightly(size, tuple(sorted(deck)), False)
        self.assertEqual(found, {True, False})

    def test_least_test(self):
        for size in range(1, 9):
            deck = least_test(size)
            self.assertEqual(len(deck), 2 * size)
            self.told([("tells",), True], [judge_test(size, deck), tells_by_pairs(size, deck)])
        for size in (1, 2, 3, 4):
            throws = all_throws(size)
            self.told(len(throws), len(by_orders(size, least_test(size), throws)))

    def test_just_the_right_certificates_hold(self):
        for size, deck in ((1, ()), (1, (0,)), (1, (0, 0)), (2, (0, 1, 1, 0)), (2, (0, 0, 1, 1)), (2, (1, 1)), (2, ()),
                           (2, (0, 1, 0, 1, 0))):
            throws = THROWS[size]
            right = [("same", one, other) for group in by_orders(size, deck, throws)
                     for one in group for other in group if one != other]
            right += [] if right else [("tells",)]
            others = throws + THROWS[1][:1] + THROWS[3][:2]
            candidates = [("same", one, other) for one in others for other in others] + [("tells",)]
            self.only_right_ones_hold(right, candidates, judge_test(size, deck), test_holds, size, deck)

    def test_any_value_that_is_none(self):
        for size in NO_SIZES:
            self.refused(BadSize, size, judge_test, size, (0, 0))
            self.refused(BadSize, size, judge_test, size, None)
            self.refused(BadSize, size, test_holds, size, None, ("tells",))
            self.refused(BadSize, size, least_test, size)
        for deck in NO_DECKS + ((2,), (0, 1, 2, 0)):
            self.refused(BadDeck, deck, judge_test, 2, deck)
            self.refused(BadDeck, deck, test_holds, 2, deck, None)


class LooksLeftTest(Case):
    def test_the_example(self):
        self.told((((1, 2, 0), 1), ((2, 1, 0), 1)), looks_left(2, SEEN, (0, 1, 1)))

    def test_small_facts_and_decks_against_trying_all_throws(self):
        draw = Random(86)
        for size in (1, 2, 3):
            for _ in range(40):
                facts = drawn_facts(size, draw, draw.randrange(4), 4)
                if fitting(size, facts, THROWS[size]):
                    for cards in range(5):
                        deck = tuple(draw.choices(range(size), k=cards))
                        self.told(looks_by_trying(size, facts, deck), looks_left(size, facts, deck))

    def test_no_facts_and_no_cards(self):
        self.told([(((), 2),), (((), 10),), (((), 74),)], [looks_left(size, (), ()) for size in (1, 2, 3)])
        self.told((((0, 1), 1), ((1, 0), 1)), looks_left(1, (), (0, 0)))
        for size in (1, 2, 3):
            looks = looks_left(size, (), least_test(size))
            self.told([len(THROWS[size]), {1}], [len(looks), {number for _, number in looks}])

    def test_decks_of_24_cards(self):
        draw = Random(87)
        started = perf_counter()
        throw = drawn_throw(3, draw)
        decks = [tuple(draw.choices(range(3), k=24)) for _ in range(6)]
        facts = tuple((deck, order_after(throw, deck)) for deck in decks)
        deck = tuple(draw.choices(range(3), k=24))
        self.told(((order_after(throw, deck), 1),), looks_left(3, facts, deck))
        self.told(looks_by_trying(3, facts[:1], deck), looks_left(3, facts[:1], deck))
        self.told(looks_by_trying(3, (), deck), looks_left(3, (), deck))
        self.assertLess(perf_counter() - started, 2)

    def test_facts_that_nothing_fits(self):
        for size, facts in ((1, PARTED), (2, CROSSED), (3, CROSSED)):
            certificate = self.raised(Unfit, looks_left, size, facts, (0,)).certificate
            self.told(["knot", True], [certificate[0], facts_hold(size, facts, certificate)])

    def test_any_value_that_is_none(self):
        for size in NO_SIZES + (4, 5, 8):
            self.refused(BadSize, size, looks_left, size, SEEN, (0,))
            self.refused(BadSize, size, looks_left, size, None, None)
        for facts in NO_FACTS:
            self.refused(BadFacts, facts, looks_left, 2, facts, (0,))
            self.refused(BadFacts, facts, looks_left, 2, facts, None)
        for deck in NO_DECKS + ((2,), (0, 1, 2, 0)):
            self.refused(BadDeck, deck, looks_left, 2, SEEN, deck)
            # A wrong deck is told ahead of facts that nothing fits.
            self.refused(BadDeck, deck, looks_left, 2, CROSSED, deck)

    def test_two_throws_of_one_lot(self):
        self.told([(((1, 0), 1),), (((0, 1), 1),)],
                  [looks_left(1, (((0, 0), order_after(throw, (0, 0))),), (0, 0)) for throw in (turning(1), still(1))])


if __name__ == "__main__":
    unittest.main()
