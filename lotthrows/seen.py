"""What facts show: sights of two cards, which kinds came ahead of which, and the lots that this makes."""

from lotthrows.decks import is_deck, is_order, undone_order
from lotthrows.errors import BadFacts
from lotthrows.throws import KEPT, TURNED, order_after

MOST_FACTS = 6


def is_fact(size, thing):
    """Tell whether any value is a fact of the size."""
    if not isinstance(thing, tuple) or len(thing) != 2:
        return False
    deck, order = thing
    return is_deck(size, deck) and is_order(len(deck), order)


def need_facts(size, thing):
    """Raise BadFacts with any value that is no facts of the size."""
    if not isinstance(thing, tuple) or len(thing) > MOST_FACTS:
        raise BadFacts(thing)
    if not all(is_fact(size, fact) for fact in thing):
        raise BadFacts(thing)


def fits_all(throw, facts):
    """Tell whether a throw fits facts of its size."""
    return all([order_after(throw, deck) == order for deck, order in facts])


def sights_of(facts):
    """Return for each two cards of each fact the sight, their kinds, i's first, and KEPT or TURNED."""
    sights = []
    for f, (deck, order) in enumerate(facts):
        places = undone_order(order)
        for j, later in enumerate(deck):
            for i, early in enumerate(deck[:j]):
                sign = KEPT if places[i] < places[j] else TURNED
                sights.append(((f, i, j), early, later, sign))
    return sights


def came_ahead(sights):
    """Return the pairs of kinds of which the first one came ahead of the second one."""
    return sorted(set([(early, later) if sign == KEPT else (later, early) for _, early, later, sign in sights]))


def ways_round(size, pairs):
    """Return for each two kinds that are linked by pairs the shortest row of kinds from the first one to the second.

    In the row each kind is paired with the next one, and the last one with the second kind, which is left out.
    """
    rows = {(c, d): (c,) for c, d in pairs}
    for mid in range(size):
        for c in range(size):
            for d in range(size):
                if (c, mid) in rows and (mid, d) in rows:
                    longer = rows[(c, mid)] + rows[(mid, d)]
                    if (c, d) not in rows or len(longer) < len(rows[(c, d)]):
                        rows[(c, d)] = longer
    return rows


def linked_lots(size, rows):
    """Return the lots of those kinds that are linked with one another, none behind one that it is linked to."""
    lots = []
    for c in range(size):
        lot = tuple([d for d in range(size) if d == c or ((c, d) in rows and (d, c) in rows)])
        if lot[0] == c:
            # What a lot is linked to has the lot ahead of it, and all that is ahead of the lot: so it has more.
            ahead = [d for d in range(size) if (d, c) in rows and (c, d) not in rows]
            lots.append((len(ahead), lot))
    return [lot for _, lot in sorted(lots)]


def sight_of_sign(sights, lot, sign):
    """Return the first sight of two cards of a lot with the sign, None if there is none."""
    for sight, early, later, seen in sights:
        if seen == sign and early in lot and later in lot:
            return sight
    return None
