"""Books of throws, and which throws rows of their throws make."""

from lotthrows.checks import is_ascending, is_marked, is_within
from lotthrows.decks import need_order
from lotthrows.errors import BadBook, BadNumber, OtherSize
from lotthrows.rows import MOST_THROWS, is_throw_of_size, joined
from lotthrows.throws import is_throw, size_of, still

MOST_IN_BOOK = 4
MOST_KINDS_OF_BOOK = 4


def is_book(thing):
    """Tell whether any value is a book."""
    if not isinstance(thing, tuple) or not is_within(len(thing), 1, MOST_IN_BOOK) or not is_throw(thing[0]):
        return False
    size = size_of(thing[0])
    return size <= MOST_KINDS_OF_BOOK and all(is_throw_of_size(size, throw) for throw in thing)


def need_book(thing):
    """Raise BadBook with any value that is no book."""
    if not is_book(thing):
        raise BadBook(thing)


def are_numbers(book, thing):
    """Tell whether any value is a tuple of at most 60 numbers of a book's throws."""
    if not isinstance(thing, tuple) or len(thing) > MOST_THROWS:
        return False
    return all(is_within(number, 0, len(book) - 1) for number in thing)


def throw_of_row(book, numbers):
    """Return the throw that a row of numbers of a book's throws makes."""
    throw = still(size_of(book[0]))
    for number in numbers:
        throw = joined(throw, book[number])
    return throw


def made_by(book, numbers):
    """Return the throw that a row of numbers of a book's throws makes."""
    need_book(book)
    if not are_numbers(book, numbers):
        raise BadNumber(numbers)
    return throw_of_row(book, numbers)


def shortest_rows(book):
    """Return for each throw that rows of a book make a shortest row that makes it, shorter ones first."""
    found = {still(size_of(book[0])): ()}
    newest = list(found)
    while newest:
        longer = []
        for throw in newest:
            for number, behind in enumerate(book):
                made = joined(throw, behind)
                if made not in found:
                    found[made] = found[throw] + (number,)
                    longer.append(made)
        newest = longer
    return found


def all_made(book):
    """Return all throws that rows of a book make, ascending."""
    need_book(book)
    return tuple(sorted(shortest_rows(book)))


def row_lengths(book):
    """Return the throws that rows of a book make, ascending, each with the length of a shortest row that makes it."""
    need_book(book)
    return tuple(sorted([(throw, len(numbers)) for throw, numbers in shortest_rows(book).items()]))


def are_ascending_throws(size, thing):
    """Tell whether any value is an ascending tuple of throws of the size."""
    if not isinstance(thing, tuple) or not all(is_throw_of_size(size, throw) for throw in thing):
        return False
    return is_ascending(thing)


def is_closed(book, thing):
    """Tell whether any value is an ascending tuple of throws, the still one too, that a book does not lead out of."""
    size = size_of(book[0])
    if not are_ascending_throws(size, thing):
        return False
    inside = {throw: True for throw in thing}
    if still(size) not in inside:
        return False
    return all([joined(throw, behind) in inside for throw in thing for behind in book])


def judge_wanted(book, wanted):
    """Return a shortest row that makes one of the wanted throws, or a closed tuple that has none of them."""
    rows = shortest_rows(book)
    # Shorter rows come first.
    for throw, numbers in rows.items():
        if throw in wanted:
            return ("row", numbers)
    return ("closed", tuple(sorted(rows)))


def wanted_holds(book, wanted, thing):
    """Tell whether any value is a certificate for a book and the wanted throws."""
    if is_marked(thing, "row", 2):
        judged = judge_wanted(book, wanted)
        if judged[0] != "row" or not are_numbers(book, thing[1]) or len(thing[1]) != len(judged[1]):
            return False
        return throw_of_row(book, thing[1]) in wanted
    if not is_marked(thing, "closed", 2) or not is_closed(book, thing[1]):
        return False
    return not any([throw in wanted for throw in thing[1]])


def need_throw_of_book(book, throw):
    """Raise BadBook, BadThrow, then OtherSize with a throw of another size."""
    need_book(book)
    # That it is a throw is asked by size_of.
    if size_of(throw) != size_of(book[0]):
        raise OtherSize(throw)


def judge_reached(book, throw):
    """Return a shortest row that makes a throw, or a closed tuple of throws that bars it."""
    need_throw_of_book(book, throw)
    return judge_wanted(book, (throw,))


def reached_holds(book, throw, thing):
    """Tell whether any value is a certificate for a book and a throw."""
    need_throw_of_book(book, throw)
    return wanted_holds(book, (throw,), thing)


def need_kinds_of_book(book, kinds):
    """Raise BadBook, then BadOrder with any value that is no order of the kinds of the book's size."""
    need_book(book)
    need_order(size_of(book[0]), kinds)


def singles_in_order(kinds):
    """Return all throws whose lots are the single kinds in this order."""
    found = [()]
    for kind in kinds:
        found = [throw + (((kind,), sign),) for throw in found for sign in (1, -1)]
    return tuple(found)


def judge_brought(book, kinds):
    """Return a shortest row that brings all decks into an order, or a closed tuple of throws that bars it."""
    need_kinds_of_book(book, kinds)
    return judge_wanted(book, singles_in_order(kinds))


def brought_holds(book, kinds, thing):
    """Tell whether any value is a certificate for a book and an order of the kinds."""
    need_kinds_of_book(book, kinds)
    return wanted_holds(book, singles_in_order(kinds), thing)


def need_books_of_one_size(one, other):
    """Raise BadBook with the first value that is no book, then OtherSize with the second book."""
    need_book(one)
    need_book(other)
    if size_of(one[0]) != size_of(other[0]):
        raise OtherSize(other)


def judge_same(one, other):
    """Return that two books make the same, or a throw that just one of them makes."""
    need_books_of_one_size(one, other)
    by_one = shortest_rows(one)
    by_other = shortest_rows(other)
    for throw in by_one:
        if throw not in by_other:
            return ("first", throw)
    for throw in by_other:
        if throw not in by_one:
            return ("second", throw)
    return ("same",)


def same_holds(one, other, thing):
    """Tell whether any value is a certificate for two books."""
    need_books_of_one_size(one, other)
    if is_marked(thing, "same", 1):
        return judge_same(one, other) == ("same",)
    by_one = shortest_rows(one)
    by_other = shortest_rows(other)
    if is_marked(thing, "first", 2) and is_throw(thing[1]):
        return thing[1] in by_one and thing[1] not in by_other
    if is_marked(thing, "second", 2) and is_throw(thing[1]):
        return thing[1] in by_other and thing[1] not in by_one
    return False
