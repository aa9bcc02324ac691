"""What the functions of the package ask of integers, sizes, kinds and certificates."""

from lotthrows.errors import BadKind, BadNumber, BadSize

MOST_KINDS = 8


def is_integer(thing):
    """Tell whether any value is an integer; a bool is none."""
    return isinstance(thing, int) and not isinstance(thing, bool)


def is_within(thing, low, high):
    """Tell whether any value is an integer from low to high."""
    return is_integer(thing) and low <= thing <= high


def is_size(thing):
    """Tell whether any value is a size."""
    return is_within(thing, 1, MOST_KINDS)


def is_kind(size, thing):
    """Tell whether any value is a kind of the size."""
    return is_within(thing, 0, size - 1)


def are_kinds(size, things):
    """Tell whether any values are all kinds of the size."""
    return all(is_kind(size, thing) for thing in things)


def is_ascending(things):
    """Tell whether things of one kind are sorted, without duplicates."""
    return all([low < high for low, high in zip(things, things[1:])])


def is_marked(thing, mark, length):
    """Tell whether any value is a tuple of so many items of which the first one is the mark."""
    return isinstance(thing, tuple) and len(thing) == length and thing[0] == mark


def need_size(thing):
    """Raise BadSize with any value that is no size."""
    if not is_size(thing):
        raise BadSize(thing)


def need_kind(size, thing):
    """Raise BadKind with any value that is no kind of the size."""
    if not is_kind(size, thing):
        raise BadKind(thing)


def need_number(thing):
    """Raise BadNumber with any value that is no integer from 0 on."""
    if not is_integer(thing) or thing < 0:
        raise BadNumber(thing)
