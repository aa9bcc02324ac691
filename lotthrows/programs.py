"""Programs of clerks who choose: how two cards can come out of them."""

from lotthrows.checks import are_kinds, is_ascending, is_marked, need_kind, need_size
from lotthrows.decks import need_order
from lotthrows.errors import BadProgram
from lotthrows.rows import is_throw_of_size
from lotthrows.twocards import runs_to_ends

MOST_PARTS = 40
MOST_DEEP = 6


def are_ascending_kinds(size, thing):
    """Tell whether any value is an ascending tuple of kinds of the size, perhaps ()."""
    return isinstance(thing, tuple) and are_kinds(size, thing) and is_ascending(thing)


def inner_programs(size, thing):
    """Return what stands for the inner programs in any value that else has the form of a program, otherwise None."""
    if is_marked(thing, "throw", 2) and is_throw_of_size(size, thing[1]):
        return ()
    if is_marked(thing, "row", 2) and isinstance(thing[1], tuple):
        return thing[1]
    if is_marked(thing, "choice", 2) and isinstance(thing[1], tuple) and thing[1] != ():
        return thing[1]
    if is_marked(thing, "often", 2):
        return thing[1:]
    if is_marked(thing, "parted", 4) and are_ascending_kinds(size, thing[1]):
        return thing[2:]
    return None


def is_program(size, thing):
    """Tell whether any value is a program of the size."""
    need_size(size)
    level = [thing]
    parts = 0
    for _ in range(MOST_DEEP):
        parts += len(level)
        if parts > MOST_PARTS:
            return False
        inner = [inner_programs(size, program) for program in level]
        if any(programs is None for programs in inner):
            return False
        level = [program for programs in inner for program in programs]
    return level == []


def need_program(size, thing):
    """Raise BadSize, then BadProgram with any value that is no program of the size."""
    if not is_program(size, thing):
        raise BadProgram(thing)


def parts_in(size, program):
    """Return how many parts a program has that is one surely."""
    return 1 + sum([parts_in(size, inner) for inner in inner_programs(size, program)])


def parts_of(size, program):
    """Return how many parts a program has."""
    need_program(size, program)
    return parts_in(size, program)


def ends_in(program, a, b):
    """Return the ends of a program that is one surely, for two kinds."""
    return tuple(sorted(runs_to_ends(program, a, b)))


def ends(size, program, a, b):
    """Return how a card of the kind a that lies ahead of a card of the kind b can lie after a program."""
    need_program(size, program)
    need_kind(size, a)
    need_kind(size, b)
    return ends_in(program, a, b)


def goes_wrong(program, kinds, a, b):
    """Tell whether the cards of the deck (a, b) can come out against the told order of the kinds."""
    against = "behind" if kinds.index(a) < kinds.index(b) else "ahead"
    return against in ends_in(program, a, b)


def judge_sorted(size, program, kinds):
    """Return that a program surely sorts, or two kinds of which cards can come out against the told order."""
    need_program(size, program)
    need_order(size, kinds)
    for a in range(size):
        for b in range(size):
            if a != b and goes_wrong(program, kinds, a, b):
                return ("wrong", a, b)
    return ("sure",)


def sorted_holds(size, program, kinds, thing):
    """Tell whether any value is a certificate for a program and an order of the kinds."""
    judged = judge_sorted(size, program, kinds)
    if is_marked(thing, "sure", 1):
        return judged == ("sure",)
    if not is_marked(thing, "wrong", 3) or not are_kinds(size, thing[1:]):
        return False
    _, a, b = thing
    return a != b and goes_wrong(program, kinds, a, b)


def judge_alike(size, one, other):
    """Return that two programs are alike by twos, or two kinds for which their ends are unlike."""
    need_program(size, one)
    need_program(size, other)
    for a in range(size):
        for b in range(size):
            if ends_in(one, a, b) != ends_in(other, a, b):
                return ("unlike", a, b)
    return ("alike",)


def alike_holds(size, one, other, thing):
    """Tell whether any value is a certificate for two programs."""
    judged = judge_alike(size, one, other)
    if is_marked(thing, "alike", 1):
        return judged == ("alike",)
    if not is_marked(thing, "unlike", 3) or not are_kinds(size, thing[1:]):
        return False
    _, a, b = thing
    return ends_in(one, a, b) != ends_in(other, a, b)
