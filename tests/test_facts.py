import unittest
from itertools import permutations, product
from random import Random
from time import perf_counter

from lotthrows.errors import BadFacts, BadKind, BadNumber, BadSize, BadThrow, BadWay, TooMany, Unfit
from lotthrows.facts import (
    facts_hold, fits, fitting_throws, judge_facts, judge_way, way_holds, ways_left,
)
from lotthrows.throws import is_throw, order_after, size_of, still, turning, way_of
from helpers import (
    INTEGERS, NO_NUMBERS, NO_SIZES, NO_THROWS, NOTHING_VALID, SINGLES, SORT, STRINGS, THROWS, Case, all_throws,
    drawn_throw, near,
)

WAYS = ("ahead", "behind", "kept", "turned")
SEEN = (((0, 1, 0), (1, 0, 2)),)
PARTED = (((0, 0), (0, 1)), ((0, 0), (1, 0)))
# Nothing of size 2 fits these, and only both together show it.
CROSSED = (((0, 1), (0, 1)), ((0, 1), (1, 0)), ((1, 1), (0, 1)))
# Each of these was seen alone in just one way, all of them show that the kinds are one lot which is kept and turned.
ROUND = (((0, 1), (0, 1)), ((1, 2), (0, 1)), ((2, 3), (0, 1)), ((0, 3), (1, 0)))
NO_FACTS = NOTHING_VALID + STRINGS + INTEGERS + (
    ((), ()), (((), ()),) * 7, SEEN * 7, SEEN[0], [SEEN[0]], list(SEEN), (list(SEEN[0]),), {0: SEEN[0]},
    (((0, 1, 0),),), (((0, 1, 0), (1, 0, 2), ()),), (((0, 1, 0), (1, 0, 2), (1, 0, 2)),), (((0, 1, 0), None),),
    (([0, 1, 0], (1, 0, 2)),), (((0, 1, 0), [1, 0, 2]),), (((0, 1, 0), (1, 0)),), (((0, 1, 0), (1, 0, 2, 3)),),
    (((0, 1, 0), (1, 0, 1)),), (((0, 1, 0), (1, 0, 3)),), (((0, 1, 0), (1, 0, -1)),), (((0, 1, 0), (True, 0, 2)),),
    (((0, True, 0), (1, 0, 2)),), (((0, False), (1, 0)),), (((0, 2), (1, 0)),), (((-1, 0), (1, 0)),),
    (((0,) * 61, tuple(range(61))),),
    (((0, 10 ** 99), (0, 1)),), (("01", (0, 1)),), (((0, 1), "01"),), (((0, "1"), (0, 1)),), (((0, 1), (0, "1")),),
    (((0, 1), (0, None)),), ((((0, 1),), (0, 1)),), SEEN + (None,), SEEN + ((),), (SEEN,), (SEEN[0], SEEN),
    (((0, 1), {0: 1}),),
)
NO_KINDS = NOTHING_VALID + STRINGS + ((), (0,), 2, 3, 7, 8, -1, -2, 10 ** 99, -10 ** 99)
NO_WAYS = NOTHING_VALID + STRINGS + INTEGERS + (
    (), "Ahead", "ahead ", " kept", "keep", "turn", ("ahead",), ["kept"], "aheadbehind", "kept\n", "e", b"kept", "sure",
)


def fitting(size, facts, throws):
    """The throws of those that fit facts."""
    return [throw for throw in throws if all(order_after(throw, deck) == order for deck, order in facts)]


def facts_of(size, cards):
    """All facts of one deck with so many cards."""
    return [(deck, order) for deck in product(range(size), repeat=cards) for order in permutations(range(cards))]


def drawn_facts(size, draw, number, cards):
    """Facts of a throw of the size, now and then with another order."""
    base = drawn_throw(size, draw)
    found = []
    for _ in range(number):
        deck = tuple(draw.choices(range(size), k=draw.randrange(cards + 1)))
        throw = base if draw.random() < 0.9 else drawn_throw(size, draw)
        found.append((deck, order_after(throw, deck)))
    return tuple(found)


def came_ahead(facts, c, d):
    """Whether a card of the kind c was seen ahead of another one of the kind d."""
    return any(deck[x] == c and deck[y] == d for deck, order in facts
               for at, x in enumerate(order) for y in order[at + 1:])


def are_integers(thing, length=None):
    return type(thing) is tuple and len(thing) == (length or len(thing)) and all(type(part) is int for part in thing)


def is_right_knot(size, facts, thing):
    """Whether a value is a knot of facts, told straight from what a ring and its sights are."""
    if type(thing) is not tuple or len(thing) != 4 or thing[0] != "knot" or not are_integers(thing[1]):
        return False
    ring = thing[1]
    if not 1 <= len(ring) <= 64 or not all(0 <= kind < size for kind in ring):
        return False
    if not all(came_ahead(facts, ring[at - 1], ring[at]) for at in range(len(ring))):
        return False
    for sight, kept in zip(thing[2:], (True, False)):
        if not are_integers(sight, 3) or sight not in [
                (f, i, j) for f, (deck, _) in enumerate(facts) for j in range(len(deck)) for i in range(j)]:
            return False
        f, i, j = sight
        deck, order = facts[f]
        if deck[i] not in ring or deck[j] not in ring or (order.index(i) < order.index(j)) != kept:
            return False
    return True


def kept_link(a, b):
    """A fact by which the kind a came ahead of the kind b, and nothing else."""
    return (a, b), (0, 1)


class FitsTest(Case):
    def test_the_example(self):
        self.told(True, fits((((1,), -1), ((0,), 1)), SEEN))

    def test_no_facts_and_no_cards(self):
        for throw in (still(1), turning(8), SORT):
            self.told([True] * 4, [fits(throw, facts) for facts in ((), (((), ()),), (((), ()),) * 6, (((0,), (0,)),))])

    def test_all_facts_of_one_deck(self):
        for size, longest in ((1, 4), (2, 4), (3, 3)):
            for cards in range(longest + 1):
                for deck, order in facts_of(size, cards):
                    for throw in THROWS[size][:: 1 if size < 3 else 7]:
                        self.told(order_after(throw, deck) == order, fits(throw, ((deck, order),)))

    def test_all_of_several_facts_have_to_fit(self):
        for first, second in product((0, 1), repeat=2):
            facts = (((0, 1, 0), ((0, 1, 2), (2, 1, 0))[first]), ((1, 1), ((0, 1), (1, 0))[second]))
            self.told([first == second == 0, first == second == 1], [fits(still(2), facts), fits(turning(2), facts)])
            self.told([first == second == 0], [fits(still(2), facts[::-1])])

    def test_six_facts_and_seven(self):
        self.told(True, fits((((1,), -1), ((0,), 1)), SEEN * 6))
        seven = SEEN * 7
        self.refused(BadFacts, seven, fits, (((1,), -1), ((0,), 1)), seven)

    def test_facts_of_the_throws_size(self):
        facts = (((0, 1), (0, 1)),)
        self.told([True, True], [fits(still(2), facts), fits(still(8), facts)])
        self.refused(BadFacts, facts, fits, still(1), facts)

    def test_any_value_that_is_none(self):
        for throw in NO_THROWS:
            self.refused(BadThrow, throw, fits, throw, SEEN)
            self.refused(BadThrow, throw, fits, throw, None)
        for facts in NO_FACTS:
            self.refused(BadFacts, facts, fits, still(2), facts)


class FactsTest(Case):
    def judged_rightly(self, size, facts, throws):
        found = fitting(size, facts, throws)
        judged = judge_facts(size, facts)
        self.told("throw" if found else "knot", judged[0], (size, facts))
        self.told(True, facts_hold(size, facts, judged))
        if found:
            self.assertIn(judged[1], found)
        else:
            self.assertTrue(is_right_knot(size, facts, judged), judged)
        return found

    def told_as_by_trying(self, size, facts, throws, every_way=True):
        found = self.judged_rightly(size, facts, throws)
        self.told(tuple(found), fitting_throws(size, facts, len(found)))
        if found and facts:
            self.told(len(found) - 1, self.raised(TooMany, fitting_throws, size, facts, len(found) - 1).most)
        for a, b in product(range(size), repeat=2) if every_way else ():
            if not found:
                self.unfit(size, facts, a, b)
                continue
            left = sorted({way_of(throw, a, b) for throw in found})
            self.told(tuple(left), ways_left(size, facts, a, b))
            for way in WAYS[2 * (a == b):]:
                judged = judge_way(size, facts, a, b, way)
                self.told("never" if way not in left else "sure" if left == [way] else "open", judged[0])
                self.told(True, way_holds(size, facts, a, b, way, judged))
                self.told([judged == ("sure",), judged == ("never",)],
                          [way_holds(size, facts, a, b, way, (word,)) for word in ("sure", "never")])
                if judged[0] == "open":
                    self.assertIn(judged[1], found)
                    self.assertIn(judged[2], found)
                    self.told([True, False], [way_of(throw, a, b) == way for throw in judged[1:]])
                else:
                    self.assertEqual(len(judged), 1)

    def unfit(self, size, facts, a, b):
        for function, more in ((ways_left, ()), (judge_way, ("kept",)), (way_holds, ("turned", ("sure",)))):
            caught = self.raised(Unfit, function, size, facts, a, b, *more)
            self.assertTrue(is_right_knot(size, facts, caught.certificate), caught.certificate)
            self.told(True, facts_hold(size, facts, caught.certificate))

    def test_the_examples(self):
        self.told([('behind',), ('kept',), ('kept', 'turned'), ('sure',), ('never',), 'open'],
                  [ways_left(2, SEEN, 0, 1), ways_left(2, SEEN, 0, 0), ways_left(2, SEEN, 1, 1),
                   judge_way(2, SEEN, 0, 1, 'behind'), judge_way(2, SEEN, 1, 0, 'behind'),
                   judge_way(2, SEEN, 1, 1, 'kept')[0]])
        self.told([((((1,), -1), ((0,), 1)), (((1,), 1), ((0,), 1))), 'knot', True],
                  [fitting_throws(2, SEEN, 9), judge_facts(1, PARTED)[0],
                   facts_hold(1, PARTED, ('knot', (0,), (0, 0, 1), (1, 0, 1)))])

    def test_all_single_facts(self):
        for size, longest in ((1, 4), (2, 3), (3, 2)):
            for cards in range(longest + 1):
                for fact in facts_of(size, cards):
                    self.told_as_by_trying(size, (fact,), THROWS[size])

    def test_all_pairs_and_threes_of_small_facts(self):
        for size, longest, together in ((1, 3, 2), (1, 2, 3), (2, 2, 2)):
            facts = [fact for cards in range(longest + 1) for fact in facts_of(size, cards)]
            for chosen in product(facts, repeat=together):
                self.told_as_by_trying(size, chosen, THROWS[size])
        facts = facts_of(2, 2)
        for chosen in product(facts, repeat=3):
            self.told_as_by_trying(2, chosen, THROWS[2], every_way=False)

    def test_drawn_facts(self):
        draw = Random(81)
        for size, times, cards in ((2, 50, 5), (3, 60, 4), (3, 20, 8)):
            for _ in range(times):
                self.told_as_by_trying(size, drawn_facts(size, draw, draw.randrange(1, 7), cards), THROWS[size])
        four = all_throws(4)
        for _ in range(6):
            self.told_as_by_trying(4, drawn_facts(4, draw, draw.randrange(1, 5), 5), four, every_way=False)

    def test_no_facts_and_no_cards(self):
        for facts in ((), (((), ()),), (((), ()), ((0,), (0,)), ((), ())) * 2, (((0,), (0,)),) * 6):
            for size in (1, 2, 3):
                self.told_as_by_trying(size, facts, THROWS[size])
            for size in range(1, 9):
                self.told(True, facts_hold(size, facts, judge_facts(size, facts)))
                for throw in (still(size), turning(size), SINGLES[:size]):
                    self.told(True, facts_hold(size, facts, ("throw", throw)))
                for a, b in product(range(size), repeat=2):
                    self.told(WAYS[2 * (a == b):], ways_left(size, facts, a, b))

    def test_facts_that_bar_each_other_only_together(self):
        for facts, size in ((PARTED, 1), (CROSSED, 2), (ROUND, 4), (ROUND, 8)):
            self.told("knot", judge_facts(size, facts)[0])
            for at in range(len(facts)):
                if (facts, at) != (CROSSED, 2):
                    self.told("throw", judge_facts(size, facts[:at] + facts[at + 1:])[0], (facts, at))
        links = (kept_link(0, 1), kept_link(1, 2), kept_link(2, 3), kept_link(3, 0))
        self.told(("throw", still(4)), judge_facts(4, links))
        self.told("knot", judge_facts(4, links + (((2, 2), (1, 0)),))[0])
        self.told("knot", judge_facts(4, links + (((1, 3), (1, 0)),))[0])
        self.told("throw", judge_facts(4, links[:3] + (((2, 2), (1, 0)),))[0])
        self.told("throw", judge_facts(5, links + (((4, 4), (1, 0)), ((4, 2), (1, 0))))[0])

    def test_what_stands_between_two_kinds_of_one_lot_is_in_it(self):
        links = (kept_link(0, 1), kept_link(1, 2))
        self.told(("ahead", "kept"), ways_left(3, links, 0, 2))
        turned = links + (((1, 1), (1, 0)),)
        self.told([("ahead",), ("ahead",), ("turned",)],
                  [ways_left(3, turned, 0, 2), ways_left(3, turned, 1, 2), ways_left(3, turned, 1, 1)])
        self.told([("ahead", "turned"), ("ahead", "turned")],
                  [ways_left(3, (((1, 0), (1, 0)), ((2, 1), (1, 0))), 0, 1), ways_left(3, (((2, 0), (1, 0)),), 0, 2)])

    def test_eight_kinds(self):
        draw = Random(82)
        for _ in range(40):
            throw = drawn_throw(8, draw)
            decks = [tuple(draw.choices(range(8), k=draw.choice((2, 5, 24)))) for _ in range(6)]
            facts = tuple((deck, order_after(throw, deck)) for deck in decks)
            judged = judge_facts(8, facts)
            self.told(["throw", True, True], [judged[0], fits(judged[1], facts),
                                              facts_hold(8, facts, ("throw", throw))])
            for a, b in ((0, 1), (3, 3), (7, 2)):
                left = ways_left(8, facts, a, b)
                self.assertIn(way_of(throw, a, b), left)
                for way in WAYS[2 * (a == b):]:
                    certificate = judge_way(8, facts, a, b, way)
                    self.told(True, way_holds(8, facts, a, b, way, certificate))
                    self.told(("open" if len(left) > 1 else "sure") if way in left else "never", certificate[0])

    def test_knots_of_eight_kinds(self):
        draw = Random(83)
        knots = 0
        for _ in range(60):
            facts = drawn_facts(8, draw, 6, 12)
            judged = judge_facts(8, facts)
            self.told(True, facts_hold(8, facts, judged))
            if judged[0] == "knot":
                knots += 1
                self.assertTrue(is_right_knot(8, facts, judged))
                self.unfit(8, facts, 0, 7)
        self.assertGreater(knots, 10)
        around = (((0, 1, 2, 3, 4, 5, 6, 7), tuple(range(8))), ((7, 0), (0, 1)), ((3, 3), (1, 0)))
        self.assertTrue(is_right_knot(8, around, judge_facts(8, around)))
        self.told(("throw", still(8)), judge_facts(8, around[:2]))
        six = tuple(kept_link(kind, (kind + 1) % 5) for kind in range(5)) + (((2, 4), (1, 0)),)
        self.assertTrue(is_right_knot(5, six, judge_facts(5, six)))

    def test_decks_of_24_cards_answer_at_once(self):
        draw = Random(84)
        started = perf_counter()
        for size in (8, 4):
            throw = drawn_throw(size, draw)
            decks = [tuple(draw.choices(range(size), k=24)) for _ in range(6)]
            facts = tuple((deck, order_after(throw, deck)) for deck in decks)
            self.told(True, fits(judge_facts(size, facts)[1], facts))
            self.told((way_of(throw, 0, 1),), ways_left(size, facts, 0, 1))
            self.told(("sure",), judge_way(size, facts, 0, 1, way_of(throw, 0, 1)))
        self.told((throw,), fitting_throws(4, facts, 1))
        self.assertEqual(len(fitting_throws(4, (), 730)), 730)
        self.assertLess(perf_counter() - started, 4)

    def test_just_the_right_certificates_hold(self):
        for size, facts in ((1, ()), (1, PARTED), (2, SEEN), (2, CROSSED), (2, PARTED), (1, (((0, 0, 0), (0, 2, 1)),)),
                            (2, (kept_link(0, 1), ((0, 0), (1, 0)))), (2, (kept_link(0, 1), kept_link(1, 0)))):
            rings = [ring for length in range(4) for ring in product(range(-1, size + 1), repeat=length)]
            sights = [sight for sight in product(range(-1, 3), range(-1, 3), range(-1, 4))][::3]
            sights += [(f, i, j) for f in range(len(facts)) for j in range(len(facts[f][0])) for i in range(j)]
            judged = judge_facts(size, facts)
            right = [repr(("throw", throw)) for throw in fitting(size, facts, THROWS[size])]
            candidates = [("throw", throw) for other in (1, 2, 3) for throw in THROWS[other]]
            for ring in rings if judged[0] == "knot" else rings[:4]:
                candidates += [("knot", ring, kept, judged[-1]) for kept in sights]
                candidates += [("knot", ring, judged[-2], turned) for turned in sights]
            self.just_these_hold(lambda thing: repr(thing) in right or is_right_knot(size, facts, thing),
                                 candidates, judged, facts_hold, size, facts)

    def test_rings_of_64_kinds_and_65_and_a_kind_more_than_once(self):
        facts = (((0, 0, 1, 0), (0, 1, 2, 3)), ((1, 1), (1, 0)))
        sights = ((0, 0, 1), (1, 0, 1))
        self.told([True] * 6 + [False, True, False],
                  [facts_hold(2, facts, ("knot", ring) + sights)
                   for ring in ((0, 1), (1, 0), (0, 1, 0), (0, 0, 1), (0, 1) * 32, (0,) * 63 + (1,), (0,) * 64 + (1,),
                                (0, 0, 1, 1), (0, 1) * 33)])
        self.told([False, False, True], [facts_hold(2, facts, ("knot", ring) + sights) for ring in ((0,), (1,),
                                                                                                    (1, 0))])
        self.told([True, False], [facts_hold(1, PARTED, ("knot", (0,) * length, (0, 0, 1), (1, 0, 1)))
                                  for length in (64, 65)])

    def test_sights_otherwise(self):
        facts = (((0, 1, 0), (0, 1, 2)), ((0, 1), (1, 0)))
        right = ("knot", (0, 1), (0, 0, 1), (1, 0, 1))
        self.told(True, facts_hold(2, facts, right))
        self.told([True, True, False, False, False],
                  [facts_hold(2, facts, ("knot", (0, 1), kept, (1, 0, 1)))
                   for kept in ((0, 0, 2), (0, 1, 2), (1, 0, 1), (0, 1, 0), (0, 0, 0))])
        self.told([False, False, False, False],
                  [facts_hold(2, facts, ("knot", (0, 1), (0, 0, 1), turned))
                   for turned in ((0, 0, 1), (1, 1, 0), (2, 0, 1), (True, 0, 1))])
        self.told([False, False], [facts_hold(2, facts, ("knot", (0,), (0, 0, 2), (1, 0, 1))),
                                   facts_hold(2, facts, ("knot", (0, 1), (1, 0, 1), (0, 0, 1)))])

    def test_just_the_right_certificates_of_ways_hold(self):
        for size, facts, a, b in ((1, (), 0, 0), (2, SEEN, 0, 1), (2, SEEN, 1, 1), (2, (), 1, 0),
                                  (2, (kept_link(0, 1),), 0, 1),
                                  (2, (kept_link(0, 1),), 1, 0)):
            found = fitting(size, facts, THROWS[size])
            for way in WAYS[2 * (a == b):]:
                with_way = [throw for throw in found if way_of(throw, a, b) == way]
                without = [throw for throw in found if throw not in with_way]
                right = [("open", one, other) for one in with_way for other in without]
                right += [("sure",)] * (not without) + [("never",)] * (not with_way)
                throws = THROWS[size] + THROWS[1][:1] + THROWS[3][:3]
                candidates = [("open", one, other) for one in throws for other in throws]
                candidates += [("sure",), ("never",), ("open",), ("open", throws[0])]
                self.only_right_ones_hold(right, candidates, judge_way(size, facts, a, b, way), way_holds, size, facts,
                                          a, b,
                                          way)

    def test_as_many_as_most_and_one_fewer(self):
        for size, facts, number in ((2, SEEN, 2), (1, (), 2), (2, (), 10), (3, (), 74), (4, (), 730), (1, PARTED, 0)):
            for most in (number, number + 1, 10 ** 99):
                self.told(number, len(fitting_throws(size, facts, most)))
            if number:
                for most in (number - 1, 0):
                    self.told(most, self.raised(TooMany, fitting_throws, size, facts, most).most)

    def test_fitting_throws_are_ascending_throws(self):
        for size in (1, 2, 3, 4):
            throws = fitting_throws(size, (), 1000)
            self.told(sorted(set(throws)), list(throws))
            for throw in throws:
                self.told([True, size], [is_throw(throw), size_of(throw)])


class WrongInputsTest(Case):
    def test_any_value_that_is_no_size(self):
        for size in NO_SIZES:
            for function, more in ((judge_facts, ()), (facts_hold, (None,)), (ways_left, (None, None)),
                                   (judge_way, (None,) * 3), (way_holds, (None,) * 4), (fitting_throws, (None,))):
                self.refused(BadSize, size, function, size, SEEN, *more)
                self.refused(BadSize, size, function, size, None, *more)
        for size in (5, 6, 7, 8):
            self.refused(BadSize, size, fitting_throws, size, (), 1000)

    def test_any_value_that_is_no_facts(self):
        for facts in NO_FACTS:
            for function, more in ((judge_facts, ()), (facts_hold, (None,)), (ways_left, (None, None)),
                                   (judge_way, (None,) * 3), (way_holds, (None,) * 4), (fitting_throws, (None,))):
                self.refused(BadFacts, facts, function, 2, facts, *more)
        right = {repr(fact) for fact in facts_of(2, 3)} | {repr(fact) for fact in facts_of(2, 2)}
        for facts in near(SEEN):
            if not (isinstance(facts, tuple) and len(facts) <= 6 and all(repr(fact) in right for fact in facts)):
                self.refused(BadFacts, facts, judge_facts, 2, facts)
        self.refused(BadFacts, SEEN, judge_facts, 1, SEEN)

    def test_any_value_that_is_no_kind(self):
        for kind in NO_KINDS:
            for function, more in ((ways_left, ()), (judge_way, (None,)), (way_holds, (None, None))):
                for facts in (SEEN, CROSSED):
                    self.refused(BadKind, kind, function, 2, facts, kind, None, *more)
                    self.refused(BadKind, kind, function, 2, facts, 0, kind, *more)

    def test_any_value_that_is_no_way(self):
        for way in NO_WAYS:
            for facts in (SEEN, CROSSED):
                self.refused(BadWay, way, judge_way, 2, facts, 0, 1, way)
                self.refused(BadWay, way, way_holds, 2, facts, 1, 1, way, ("sure",))
        for way in ("ahead", "behind"):
            self.refused(BadWay, way, judge_way, 2, SEEN, 1, 1, way)
            self.refused(BadWay, way, way_holds, 2, SEEN, 0, 0, way, None)

    def test_any_value_that_is_no_number(self):
        for most in NO_NUMBERS:
            self.refused(BadNumber, most, fitting_throws, 2, SEEN, most)
            self.refused(BadNumber, most, fitting_throws, 2, CROSSED, most)


if __name__ == "__main__":
    unittest.main()
