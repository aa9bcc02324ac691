"""Rows of throws, each of which is one throw, and what can be wanted behind or ahead of a throw."""

from lotthrows.checks import are_kinds, is_marked, need_number, need_size
from lotthrows.errors import BadThrows, OtherSize
from lotthrows.throws import KEPT, is_throw, lot_of, need_throw, size_of, still, way_of

MOST_THROWS = 60


def opposite_lots(signed_lots):
    """Return lots with the opposite signs in the opposite row."""
    return [(lot, -sign) for lot, sign in signed_lots[::-1]]


def lots_within(throw, kinds):
    """Return the lots of a throw as far as their kinds are among these kinds."""
    shares = [(tuple([kind for kind in lot if kind in kinds]), sign) for lot, sign in throw]
    return [(lot, sign) for lot, sign in shares if lot != ()]


def joined(one, other):
    """Return the throw that two throws of one size are, one behind the other."""
    signed_lots = []
    for kinds, sign in other:
        inside = lots_within(one, kinds)
        signed_lots.extend(inside if sign == KEPT else opposite_lots(inside))
    return tuple(signed_lots)


def need_throws_of_one_size(one, other):
    """Raise BadThrow with the first value that is no throw, then OtherSize with the second throw."""
    # That they are throws is asked by size_of.
    if size_of(one) != size_of(other):
        raise OtherSize(other)


def both(one, other):
    """Return the throw that one, and behind it other, is."""
    need_throws_of_one_size(one, other)
    return joined(one, other)


def is_throw_of_size(size, thing):
    """Tell whether any value is a throw of the size."""
    return is_throw(thing) and size_of(thing) == size


def need_throws(size, thing):
    """Raise BadThrows with any value that is no tuple of at most 60 throws of the size."""
    if not isinstance(thing, tuple) or len(thing) > MOST_THROWS:
        raise BadThrows(thing)
    if not all(is_throw_of_size(size, throw) for throw in thing):
        raise BadThrows(thing)


def row_of(size, throws):
    """Return the throw that a row of throws of the size is."""
    need_size(size)
    need_throws(size, throws)
    whole = still(size)
    for throw in throws:
        whole = joined(whole, throw)
    return whole


def power(throw, n):
    """Return what a throw done n times is."""
    need_throw(throw)
    need_number(n)
    if n == 0:
        return still(size_of(throw))
    if n % 2 == 1:
        return throw
    return tuple([(lot, KEPT) for lot, _ in throw])


def judge_undone(throw):
    """Return a throw that undoes a throw, or two kinds whose cards no throw can set apart again."""
    need_throw(throw)
    # A throw of one lot leaves all as it is or turns it: done twice it is still.
    if len(throw) == 1:
        return ("undone", throw)
    a, b = sorted([throw[0][0][0], throw[1][0][0]])
    return ("lost", a, b)


def undone_holds(throw, thing):
    """Tell whether any value is a certificate of judge_undone."""
    size = size_of(throw)
    if is_marked(thing, "undone", 2):
        return is_throw_of_size(size, thing[1]) and joined(throw, thing[1]) == still(size)
    if not is_marked(thing, "lost", 3) or not are_kinds(size, thing[1:]):
        return False
    _, a, b = thing
    return a < b and lot_of(throw, a) != lot_of(throw, b)


def are_parted(first, whole, a, b):
    """Tell whether two kinds are in one lot of the whole and in unlike lots of the first."""
    return lot_of(whole, a) == lot_of(whole, b) and lot_of(first, a) != lot_of(first, b)


def judge_behind(first, whole):
    """Return a throw that makes the whole behind the first, or two kinds that bar it."""
    need_throws_of_one_size(first, whole)
    wanted = []
    for lot, sign in whole:
        a = lot[0]
        for b in lot:
            if are_parted(first, whole, a, b):
                return ("parted", a, b)
        # The lot lies within one lot of the first, whose sign is made up for.
        wanted.append((lot, sign * first[lot_of(first, a)][1]))
    return ("throw", tuple(wanted))


def behind_holds(first, whole, thing):
    """Tell whether any value is a certificate of judge_behind."""
    need_throws_of_one_size(first, whole)
    size = size_of(first)
    if is_marked(thing, "throw", 2):
        return is_throw_of_size(size, thing[1]) and joined(first, thing[1]) == whole
    if not is_marked(thing, "parted", 3) or not are_kinds(size, thing[1:]):
        return False
    _, a, b = thing
    return a < b and are_parted(first, whole, a, b)


def are_set(last, whole, a, b):
    """Tell whether a stands ahead of b under the last throw, but does not under the whole."""
    return way_of(last, a, b) == "ahead" and way_of(whole, a, b) != "ahead"


def judge_ahead(last, whole):
    """Return a throw that makes the whole ahead of the last, or two kinds that bar it."""
    need_throws_of_one_size(last, whole)
    kinds = range(size_of(last))
    for a in kinds:
        for b in kinds:
            if are_set(last, whole, a, b):
                return ("set", a, b)
    # The lots of the whole lie within those of the last, in their row: what this turns must be turned ahead of it.
    return ("throw", joined(whole, last))


def ahead_holds(last, whole, thing):
    """Tell whether any value is a certificate of judge_ahead."""
    need_throws_of_one_size(last, whole)
    size = size_of(last)
    if is_marked(thing, "throw", 2):
        return is_throw_of_size(size, thing[1]) and joined(thing[1], last) == whole
    if not is_marked(thing, "set", 3) or not are_kinds(size, thing[1:]):
        return False
    _, a, b = thing
    return are_set(last, whole, a, b)
