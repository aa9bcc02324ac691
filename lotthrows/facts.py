"""Facts: what was seen of a throw, which throws fit it, and what is sure then of the ways of two kinds."""

from lotthrows.catalog import throws_of_size
from lotthrows.checks import are_kinds, is_marked, is_within, need_kind, need_number, need_size
from lotthrows.errors import BadSize, BadWay, TooMany, Unfit
from lotthrows.rows import is_throw_of_size
from lotthrows.seen import (
    came_ahead, fits_all, linked_lots, need_facts, sight_of_sign, sights_of, ways_round,
)
from lotthrows.tables import IN_ONE_LOT, WAYS
from lotthrows.throws import KEPT, TURNED, size_of, way_of

MOST_OF_RING = 64
MOST_KINDS_TRIED = 4


def fits(throw, facts):
    """Tell whether a throw fits facts."""
    need_facts(size_of(throw), facts)
    return fits_all(throw, facts)


def need_size_and_facts(size, facts):
    """Raise BadSize, then BadFacts with any value that is no facts of the size."""
    need_size(size)
    need_facts(size, facts)


def sign_of_lot(sights, lot, free):
    """Return the sign with which cards of a lot were seen, the free one if no two of them were seen."""
    for sign in (KEPT, TURNED):
        if sight_of_sign(sights, lot, sign) is not None:
            return sign
    return free


def throw_of_lots(sights, lots, free):
    """Return the throw of these lots with the signs that were seen, and the free one elsewhere."""
    return tuple([(lot, sign_of_lot(sights, lot, free)) for lot in lots])


def ring_of_lot(rows, lot):
    """Return a ring in which all kinds of a lot stand."""
    # At most seven kinds stand on the way from a kind to another one: a ring of eight kinds has at most 56.
    ring = ()
    for one, other in zip(lot, lot[1:] + lot[:1]):
        ring += rows[(one, other)]
    return ring


def judge_facts(size, facts):
    """Return a throw that fits facts, or a ring of kinds that was seen kept and turned."""
    need_size_and_facts(size, facts)
    sights = sights_of(facts)
    rows = ways_round(size, came_ahead(sights))
    lots = linked_lots(size, rows)
    for lot in lots:
        kept = sight_of_sign(sights, lot, KEPT)
        turned = sight_of_sign(sights, lot, TURNED)
        if kept is not None and turned is not None:
            return ("knot", ring_of_lot(rows, lot), kept, turned)
    return ("throw", throw_of_lots(sights, lots, KEPT))


def is_ring_seen(size, facts, thing):
    """Tell whether any value is a ring of facts."""
    if not isinstance(thing, tuple) or not is_within(len(thing), 1, MOST_OF_RING) or not are_kinds(size, thing):
        return False
    pairs = came_ahead(sights_of(facts))
    return all([pair in pairs for pair in zip(thing, thing[1:] + thing[:1])])


def is_sight(facts, ring, sign, thing):
    """Tell whether any value is a sight of a ring, kept or turned as the sign tells."""
    if not isinstance(thing, tuple) or len(thing) != 3 or not is_within(thing[0], 0, len(facts) - 1):
        return False
    f, i, j = thing
    deck, order = facts[f]
    if not is_within(j, 0, len(deck) - 1) or not is_within(i, 0, j - 1):
        return False
    if deck[i] not in ring or deck[j] not in ring:
        return False
    return (order.index(i) < order.index(j)) == (sign == KEPT)


def is_fitting(size, facts, thing):
    """Tell whether any value is a throw of the size that fits facts."""
    return is_throw_of_size(size, thing) and fits_all(thing, facts)


def facts_hold(size, facts, thing):
    """Tell whether any value is a certificate for facts."""
    need_size_and_facts(size, facts)
    if is_marked(thing, "throw", 2):
        return is_fitting(size, facts, thing[1])
    if not is_marked(thing, "knot", 4) or not is_ring_seen(size, facts, thing[1]):
        return False
    _, ring, kept, turned = thing
    return is_sight(facts, ring, KEPT, kept) and is_sight(facts, ring, TURNED, turned)


def need_two_kinds(size, facts, a, b):
    """Raise BadSize, BadFacts, then BadKind with the first of two values that is no kind of the size."""
    need_size_and_facts(size, facts)
    need_kind(size, a)
    need_kind(size, b)


def need_way(a, b, thing):
    """Raise BadWay with any value that is no way of two kinds."""
    ways = IN_ONE_LOT if a == b else WAYS
    if thing not in ways:
        raise BadWay(thing)


def need_fit(size, facts):
    """Raise Unfit with a knot if no throw fits facts."""
    certificate = judge_facts(size, facts)
    if certificate[0] == "knot":
        raise Unfit(certificate)


def links_for(way, a, b):
    """Return the pairs of kinds that have to stay in their row, or in one lot, if a and b have a way."""
    if way == "ahead":
        return [(a, b)]
    if way == "behind":
        return [(b, a)]
    return [(a, b), (b, a)]


def throws_by_way(size, facts, a, b):
    """Return for each way that is left of two kinds a throw that fits and gives it to them."""
    sights = sights_of(facts)
    pairs = came_ahead(sights)
    found = {}
    for way in WAYS:
        # Of the throws that give the kinds this way, this one joins the fewest kinds: if it does not fit, none does.
        lots = linked_lots(size, ways_round(size, pairs + links_for(way, a, b)))
        throw = throw_of_lots(sights, lots, TURNED if way == "turned" else KEPT)
        if way_of(throw, a, b) == way and fits_all(throw, facts):
            found[way] = throw
    return found


def ways_left(size, facts, a, b):
    """Return the ways that throws which fit give two kinds."""
    need_two_kinds(size, facts, a, b)
    need_fit(size, facts)
    return tuple(sorted(throws_by_way(size, facts, a, b)))


def judge_way(size, facts, a, b, way):
    """Return whether a way of two kinds is sure, or never there, or two throws between which it is open."""
    need_two_kinds(size, facts, a, b)
    need_way(a, b, way)
    need_fit(size, facts)
    found = throws_by_way(size, facts, a, b)
    if way not in found:
        return ("never",)
    others = [throw for other, throw in found.items() if other != way]
    if others == []:
        return ("sure",)
    return ("open", found[way], others[0])


def way_holds(size, facts, a, b, way, thing):
    """Tell whether any value is a certificate for a way of two kinds."""
    judged = judge_way(size, facts, a, b, way)
    if not is_marked(thing, "open", 3):
        return judged[0] != "open" and is_marked(thing, judged[0], 1)
    _, one, other = thing
    if not is_fitting(size, facts, one) or not is_fitting(size, facts, other):
        return False
    return way_of(one, a, b) == way and way_of(other, a, b) != way


def all_fitting(size, facts):
    """Return all throws of a size that fit facts, ascending."""
    return [throw for throw in throws_of_size(size) if fits_all(throw, facts)]


def fitting_throws(size, facts, most):
    """Return all throws that fit facts, ascending."""
    if not is_within(size, 1, MOST_KINDS_TRIED):
        raise BadSize(size)
    need_facts(size, facts)
    need_number(most)
    throws = all_fitting(size, facts)
    if len(throws) > most:
        raise TooMany(most)
    return tuple(throws)
