"""Rows of desks, their codes, and the folded words of the codes' signs."""

from lotthrows.checks import is_within
from lotthrows.errors import BadCode, BadDesks, BadNumber
from lotthrows.sheets import SIGN_OF_PLACE, is_desk
from lotthrows.throws import KEPT

MOST_DESKS = 12


def are_desks(thing):
    """Tell whether any value is a row of desks."""
    if not isinstance(thing, tuple) or len(thing) > MOST_DESKS:
        return False
    return all(is_desk(desk) for desk in thing)


def need_desks(thing):
    """Raise BadDesks with any value that is no row of desks."""
    if not are_desks(thing):
        raise BadDesks(thing)


def is_code(desks, thing):
    """Tell whether any value is a code for a row of desks."""
    need_desks(desks)
    if not isinstance(thing, tuple) or len(thing) != len(desks):
        return False
    return all([is_within(place, 0, len(desk) - 1) for desk, place in zip(desks, thing)])


def need_code(desks, thing):
    """Raise BadDesks, then BadCode with any value that is no code for the row of desks."""
    if not is_code(desks, thing):
        raise BadCode(thing)


def sign_of(desks, code):
    """Return the sign of a code."""
    need_code(desks, code)
    sign = KEPT
    for desk, place in zip(desks, code):
        sign *= SIGN_OF_PLACE[desk[place]]
    return sign


def exchanged(desk, place, sign):
    """Return the place itself for the sign 1, otherwise the one that is as far from the other end of the desk."""
    # So it comes from a place to where it stands in the row of the places, and from there to the place.
    return place if sign == KEPT else len(desk) - 1 - place


def codes_number(desks):
    """Return how many codes a row of desks has."""
    need_desks(desks)
    number = 1
    for desk in desks:
        number *= len(desk)
    return number


def position_of(desks, code):
    """Return the position of a code in the row of all codes."""
    need_code(desks, code)
    position = 0
    sign = KEPT
    # The last place at which codes differ sets them, so the last desk comes first.
    for desk, place in zip(desks[::-1], code[::-1]):
        position = position * len(desk) + exchanged(desk, place, sign)
        sign *= SIGN_OF_PLACE[desk[place]]
    return position


def is_ahead(desks, one, other):
    """Tell whether the code one is ahead of the code other."""
    return position_of(desks, one) < position_of(desks, other)


def code_at(desks, n):
    """Return the code at a position of the row of all codes."""
    block = codes_number(desks)
    if not is_within(n, 0, block - 1):
        raise BadNumber(n)
    code = ()
    sign = KEPT
    rest = n
    for desk in desks[::-1]:
        block //= len(desk)
        at, rest = divmod(rest, block)
        place = exchanged(desk, at, sign)
        code = (place,) + code
        sign *= SIGN_OF_PLACE[desk[place]]
    return code


def folded_on(word, desk):
    """Return the word that a further desk at the end makes of a folded word."""
    opposite_word = tuple([-sign for sign in word[::-1]])
    longer = ()
    for place in desk:
        longer += word if SIGN_OF_PLACE[place] == KEPT else opposite_word
    return longer


def folded_word(desks):
    """Return the signs of all codes of a row of desks, in the row of the codes."""
    need_desks(desks)
    word = (KEPT,)
    for desk in desks:
        word = folded_on(word, desk)
    return word
