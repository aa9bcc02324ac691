"""Tables of ways: what sets any two cards of a deck, and whether it is a throw."""

from lotthrows.checks import is_marked, is_size, need_size
from lotthrows.decks import is_deck, is_order, need_deck, undone_order
from lotthrows.errors import BadTable
from lotthrows.throws import KEPT, TURNED, is_throw, size_of, way_of

WAYS = ("ahead", "behind", "kept", "turned")
WAY_BACK = {"ahead": "behind", "behind": "ahead", "kept": "kept", "turned": "turned"}
FIRST_STAYS_AHEAD = ("ahead", "kept")
IN_ONE_LOT = ("kept", "turned")


def is_row_of_ways(size, thing):
    """Tell whether any value is a tuple of as many ways as the size has kinds."""
    if not isinstance(thing, tuple) or len(thing) != size:
        return False
    return all(way in WAYS for way in thing)


def is_table(thing):
    """Tell whether any value is a table of some size."""
    if not isinstance(thing, tuple) or not is_size(len(thing)):
        return False
    if not all(is_row_of_ways(len(thing), row) for row in thing):
        return False
    # A kind beside itself is asked, too: of the ways only "kept" and "turned" are their own way back.
    kinds = range(len(thing))
    return all([thing[b][a] == WAY_BACK[thing[a][b]] for a in kinds for b in kinds])


def need_table(thing):
    """Raise BadTable with any value that is no table."""
    if not is_table(thing):
        raise BadTable(thing)


def table_of(throw):
    """Return the table with the ways of a throw."""
    kinds = range(size_of(throw))
    return tuple([tuple([way_of(throw, a, b) for b in kinds]) for a in kinds])


def falls_in_ring(table, a, b, c):
    """Tell whether three cards of these kinds, which lie in this row, fall out in a ring."""
    a_ahead_of_b = table[a][b] in FIRST_STAYS_AHEAD
    b_ahead_of_c = table[b][c] in FIRST_STAYS_AHEAD
    a_ahead_of_c = table[a][c] in FIRST_STAYS_AHEAD
    return a_ahead_of_b == b_ahead_of_c and a_ahead_of_b != a_ahead_of_c


def first_ring(table):
    """Return the first ring of a table, None if it has none."""
    kinds = range(len(table))
    for a in kinds:
        for b in kinds:
            for c in kinds:
                if falls_in_ring(table, a, b, c):
                    return (a, b, c)
    return None


def lots_of_table(table):
    """Return the throw that has the ways of a table without a ring."""
    signed_lots = []
    for kind, row in enumerate(table):
        lot = tuple([other for other, way in enumerate(row) if way in IN_ONE_LOT])
        # Without a ring all kinds of a lot tell the same lot, so its first one is enough.
        if lot[0] == kind:
            sign = KEPT if row[kind] == "kept" else TURNED
            signed_lots.append((row.count("behind"), lot, sign))
    return tuple([(lot, sign) for _, lot, sign in sorted(signed_lots)])


def judge_table(table):
    """Return the throw that a table is, or a ring of it."""
    need_table(table)
    ring = first_ring(table)
    if ring is not None:
        return ("ring", ring)
    return ("throw", lots_of_table(table))


def is_ring(table, thing):
    """Tell whether any value is a ring of a table."""
    need_table(table)
    if not is_deck(len(table), thing) or len(thing) != 3:
        return False
    a, b, c = thing
    return falls_in_ring(table, a, b, c)


def table_holds(table, thing):
    """Tell whether any value is a certificate for a table."""
    need_table(table)
    if is_marked(thing, "ring", 2):
        return is_ring(table, thing[1])
    if not is_marked(thing, "throw", 2) or not is_throw(thing[1]):
        return False
    return table_of(thing[1]) == table


def order_by_table(table, deck):
    """Return the order by a table, None if some three cards fall out in a ring."""
    need_table(table)
    need_deck(len(table), deck)
    places = [0] * len(deck)
    for later, b in enumerate(deck):
        for early, a in enumerate(deck[:later]):
            behind = later if table[a][b] in FIRST_STAYS_AHEAD else early
            places[behind] += 1
    # If each card has another number of cards ahead of it, these numbers are places; otherwise there is a ring.
    if not is_order(len(deck), tuple(places)):
        return None
    return undone_order(tuple(places))


def tables_number(size):
    """Return how many tables of the size there are."""
    need_size(size)
    # 2 ** k times 4 ** (k (k - 1) / 2) is 2 ** (k k).
    return 1 << size * size
