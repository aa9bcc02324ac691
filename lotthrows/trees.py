"""Trees: places from which what lies there is thrown again, and the trees with the least handlings."""

from lotthrows.checks import is_ascending, is_integer, is_within
from lotthrows.errors import BadCounts, BadTree
from lotthrows.sheets import SIGN_OF_PLACE, need_desk
from lotthrows.throws import KEPT, TURNED, need_throw, order_after

MOST_TUPLES = 60
MOST_DEEP = 16
MOST_COUNTED = 1000000


def is_place_and_more(desk, thing):
    """Tell whether any value is a pair of a place of a desk and something."""
    return isinstance(thing, tuple) and len(thing) == 2 and is_within(thing[0], 0, len(desk) - 1)


def is_spread(desk, thing):
    """Tell whether a tuple consists of one or more pairs of a place and something, the places ascending."""
    if thing == () or not all(is_place_and_more(desk, pair) for pair in thing):
        return False
    return is_ascending([place for place, _ in thing])


def opened(desk, turn, thing):
    """Return what stands in a tuple, each with the sign of the way to it; what is no tuple stays as it is."""
    if not isinstance(thing, tuple):
        return [(turn, thing)]
    return [(turn * SIGN_OF_PLACE[desk[place]], inner) for place, inner in thing]


def is_tree(desk, throw, thing):
    """Tell whether any value is a tree for a desk and a throw."""
    need_desk(desk)
    need_throw(throw)
    # The tree is read from its beginning, all its tuples of one depth at once; what was opened is left in the row.
    row = [(KEPT, thing)]
    tuples = 0
    for _ in range(MOST_DEEP):
        spreads = [inner for _, inner in row if isinstance(inner, tuple)]
        tuples += len(spreads)
        if tuples > MOST_TUPLES or not all(is_spread(desk, spread) for spread in spreads):
            return False
        row = [step for turn, inner in row for step in opened(desk, turn, inner)]
    if not all(is_integer(inner) for _, inner in row):
        return False
    return row == [(sign, at) for at, (_, sign) in enumerate(throw)]


def need_tree(desk, throw, thing):
    """Raise BadDesk, BadThrow, then BadTree with any value that is no tree for them."""
    if not is_tree(desk, throw, thing):
        raise BadTree(thing)


def need_counts(throw, thing):
    """Raise BadCounts with any value that is no counts for the throw."""
    if not isinstance(thing, tuple) or len(thing) != len(throw):
        raise BadCounts(thing)
    if not all(is_within(count, 0, MOST_COUNTED) for count in thing):
        raise BadCounts(thing)


def depths(tree):
    """Return for each lot of a tree, in order, in how many tuples it stands."""
    if not isinstance(tree, tuple):
        return [0]
    return [depth + 1 for _, inner in tree for depth in depths(inner)]


def handlings(desk, throw, tree, counts):
    """Return how often cards are thrown when a tree is done."""
    need_tree(desk, throw, tree)
    need_counts(throw, counts)
    return sum([count * depth for count, depth in zip(counts, depths(tree))])


def order_by_tree(desk, throw, tree, deck):
    """Return the order in which a deck lies when a tree is done."""
    need_tree(desk, throw, tree)
    # Each lot lies behind the ones ahead of it, and piles have turned it as its sign tells: so the throw tells the
    # order, and asks for the deck.
    return order_after(throw, deck)


def with_place(best, rows, place, side, at):
    """Return what is best for the lots from a lot on if a further place stands ahead of the places of the rows."""
    options = [rows[at]] if at in rows else []
    for stop, (rest, pairs) in rows.items():
        if (at, stop, side) in best:
            cost, tree = best[(at, stop, side)]
            options.append((cost + rest, ((place, tree),) + pairs))
    return min(options, key=lambda option: option[0], default=None)


def spread_out(desk, best, turn, start, stop):
    """Return the best tuple of pairs for a stretch of lots and its handlings but for its own, None if there is none."""
    rows = {stop: (0, ())}
    for place in range(len(desk) - 1, -1, -1):
        side = turn * SIGN_OF_PLACE[desk[place]]
        found = {at: with_place(best, rows, place, side, at) for at in range(start, stop + 1)}
        rows = {at: option for at, option in found.items() if option is not None}
    return rows.get(start)


def best_trees(desk, throw, counts):
    """Return for stretches of lots, with either sign of the way to them, the least handlings and a tree with them."""
    best = {(at, at + 1, sign): (0, at) for at, (_, sign) in enumerate(throw)}
    for length in range(1, len(throw) + 1):
        for start in range(len(throw) - length + 1):
            stop = start + length
            # A lot may be laid onto a pile alone, but nothing is gained if more lots are turned over at once: for as
            # many handlings each of their lots can be turned over alone. So shorter stretches are all that is needed.
            spreads = {turn: spread_out(desk, best, turn, start, stop) for turn in (KEPT, TURNED)}
            for turn, spread in spreads.items():
                if spread is not None and (start, stop, turn) not in best:
                    best[(start, stop, turn)] = (sum(counts[start:stop]) + spread[0], spread[1])
    return best


def best_of_all(desk, throw, counts):
    """Return the least handlings for a desk and a throw, and a tree with them, None if there is no tree."""
    need_desk(desk)
    need_throw(throw)
    need_counts(throw, counts)
    return best_trees(desk, throw, counts).get((0, len(throw), KEPT))


def best_tree(desk, throw, counts):
    """Return a tree with the least handlings, None if there is no tree."""
    option = best_of_all(desk, throw, counts)
    return None if option is None else option[1]


def least_handlings(desk, throw, counts):
    """Return the least handlings, None if there is no tree."""
    option = best_of_all(desk, throw, counts)
    return None if option is None else option[0]
