"""Plans, the throws that rows of desks make, and the fewest throws that one desk needs."""

from lotthrows.checks import is_integer, is_marked, need_number, need_size
from lotthrows.errors import BadPlan
from lotthrows.folded import exchanged, folded_word, is_ahead, is_code, need_desks, sign_of
from lotthrows.rows import row_of
from lotthrows.sheets import SIGN_OF_PLACE, is_sheet, need_desk, throw_by
from lotthrows.throws import KEPT, TURNED, need_throw, size_of

# In p throws a desk with a tray and a pile makes 2 ** p signs in turn, other desks of two places 2 ** p equal signs.
# A throw has at most eight lots, so it needs at most sixteen such signs.
ENOUGH_THROWS = 4


def is_plan(desks, thing):
    """Tell whether any value is a plan for a row of desks."""
    need_desks(desks)
    if not isinstance(thing, tuple) or len(thing) != len(desks):
        return False
    if not all([is_sheet(desk, sheet) for desk, sheet in zip(desks, thing)]):
        return False
    return all([len(sheet) == len(thing[0]) for sheet in thing])


def throw_of_plan(size, desks, plan):
    """Return the throw of a plan with sheets of the size."""
    need_size(size)
    if not is_plan(desks, plan) or not all([len(sheet) == size for sheet in plan]):
        raise BadPlan(plan)
    return row_of(size, tuple([throw_by(desk, sheet) for desk, sheet in zip(desks, plan)]))


def read_sign(signs, sign):
    """Return what a reading of one sign finds."""
    return [m + 1 if signs[m:m + 1] == (sign,) else m for m in range(len(signs) + 1)]


def read_desk(desk, turn, below):
    """Return what a reading finds with a further desk at the end, by the readings without it."""
    found = list(range(len(below[KEPT])))
    for at in range(len(desk)):
        place = exchanged(desk, at, turn)
        step = below[turn * SIGN_OF_PLACE[desk[place]]]
        found = [step[m] for m in found]
    return found


def readings(desks, signs):
    """Return what the folded words of the first desks, fewer ones first, have of a row of signs.

    Folded words are far too long to be read sign by sign. So for each of them, and for the same word in the opposite
    row with the opposite signs, a list tells: if the first m signs were found, how many of them, its item m, are found
    when the word is read, too.
    """
    found = [{turn: read_sign(signs, turn) for turn in (KEPT, TURNED)}]
    for desk in desks:
        below = found[-1]
        found.append({turn: read_desk(desk, turn, below) for turn in (KEPT, TURNED)})
    return found


def codes_found(desks, found, turn, m):
    """Return the codes at which a reading finds the signs from the sign m on, one for each that it finds."""
    if found[len(desks)][turn][m] == m:
        return []
    if desks == ():
        return [()]
    desk = desks[-1]
    codes = []
    for at in range(len(desk)):
        place = exchanged(desk, at, turn)
        side = turn * SIGN_OF_PLACE[desk[place]]
        inner = codes_found(desks[:-1], found, side, m)
        codes.extend([code + (place,) for code in inner])
        m += len(inner)
    return codes


def codes_for(desks, throw):
    """Return codes, each ahead of the next one, with the signs of as many first lots of a throw as there can be."""
    signs = tuple([sign for _, sign in throw])
    return codes_found(desks, readings(desks, signs), KEPT, 0)


def judge_made(desks, throw):
    """Return codes by which a row of desks makes a throw, or for how many of its lots at the most there are codes."""
    need_desks(desks)
    need_throw(throw)
    codes = codes_for(desks, throw)
    if len(codes) < len(throw):
        return ("short", len(codes))
    return ("codes", tuple(codes))


def are_codes_for(desks, throw, thing):
    """Tell whether any value is a tuple of codes by which a row of desks makes a throw."""
    if not isinstance(thing, tuple) or len(thing) != len(throw):
        return False
    if not all(is_code(desks, code) for code in thing):
        return False
    if not all([sign_of(desks, code) == sign for code, (_, sign) in zip(thing, throw)]):
        return False
    return all([is_ahead(desks, one, other) for one, other in zip(thing, thing[1:])])


def made_holds(desks, throw, thing):
    """Tell whether any value is a certificate for a row of desks and a throw."""
    need_desks(desks)
    need_throw(throw)
    if is_marked(thing, "codes", 2):
        return are_codes_for(desks, throw, thing[1])
    if not is_marked(thing, "short", 2) or not is_integer(thing[1]):
        return False
    return thing[1] < len(throw) and thing[1] == len(codes_for(desks, throw))


def sheet_by(at, throw, codes):
    """Return the sheet that throws the kinds of each lot at a desk as the lot's code tells."""
    sheet = [0] * size_of(throw)
    for code, (lot, _) in zip(codes, throw):
        for kind in lot:
            sheet[kind] = code[at]
    return tuple(sheet)


def plan_for(desks, throw):
    """Return a plan whose throw is the throw, None if there is none."""
    need_desks(desks)
    need_throw(throw)
    codes = codes_for(desks, throw)
    if len(codes) < len(throw):
        return None
    return tuple([sheet_by(at, throw, codes) for at in range(len(desks))])


def fewest(desk, throw):
    """Return in how few throws a desk makes a throw, None if it does not in any number of throws."""
    need_desk(desk)
    need_throw(throw)
    for p in range(ENOUGH_THROWS + 1):
        if len(codes_for((desk,) * p, throw)) == len(throw):
            return p
    return None


def sign_rows(desks, m):
    """Return how many rows of m signs stand in the folded word of a row of desks."""
    need_desks(desks)
    need_number(m)
    word = folded_word(desks)
    if m > len(word):
        return 0
    # For each length, how many rows of it stand in what was read, and how many of them end with either sign.
    found = [1] + [0] * m
    ending = {KEPT: [0] * (m + 1), TURNED: [0] * (m + 1)}
    for sign in word:
        # Longer ones first, so that no row gets the sign twice. The rows that ended with it come again.
        for length in range(m, 0, -1):
            longer = found[length - 1]
            found[length] += longer - ending[sign][length]
            ending[sign][length] = longer
    return found[m]
