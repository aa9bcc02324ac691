"""Words of throws that are not told, and when two of them come to the same for every choice of throws."""

from lotthrows.checks import is_marked, is_within
from lotthrows.decks import is_deck
from lotthrows.errors import BadChoice, BadNumber, BadWord
from lotthrows.rows import is_throw_of_size, row_of
from lotthrows.throws import is_throw, order_after, size_of

LETTERS = "abcde"
MOST_LETTERS = 40
STILL = (((0, 1), 1),)
TURN = (((0, 1), -1),)
ASCENDING = (((0,), 1), ((1,), 1))
DESCENDING = (((1,), 1), ((0,), 1))


def is_word(thing):
    """Tell whether any value is a word."""
    if not isinstance(thing, str) or len(thing) > MOST_LETTERS:
        return False
    return all(letter in LETTERS for letter in thing)


def need_word(thing):
    """Raise BadWord with any value that is no word."""
    if not is_word(thing):
        raise BadWord(thing)


def is_choice(thing):
    """Tell whether any value is a choice of some size."""
    if not isinstance(thing, tuple) or len(thing) != len(LETTERS) or not is_throw(thing[0]):
        return False
    size = size_of(thing[0])
    return all(is_throw_of_size(size, throw) for throw in thing)


def throw_of(word, choice):
    """Return the throw of a word by a choice."""
    need_word(word)
    if not is_choice(choice):
        raise BadChoice(choice)
    return row_of(size_of(choice[0]), tuple([choice[LETTERS.index(letter)] for letter in word]))


def last_stands(word):
    """Return the letters of a word, each once, in the order of their last stands."""
    need_word(word)
    stands = ""
    for letter in word[::-1]:
        if letter not in stands:
            stands = letter + stands
    return stands


def odd_letters(text):
    """Return the letters that stand oddly often in a text, ascending."""
    return "".join([letter for letter in LETTERS if text.count(letter) % 2 == 1])


def behind_last(word, letter):
    """Return what stands in a word behind the last stand of a letter."""
    return word[word.rfind(letter) + 1:]


def parting_throws(one, other):
    """Return throws of two kinds for some letters by which two words set the deck (0, 1) otherwise.

    All other letters stand for the still throw. It is None if the words are alike.
    """
    uneven = odd_letters(one + other)
    if uneven:
        return {uneven[0]: TURN}
    for letter in LETTERS:
        if (letter in one) != (letter in other):
            return {letter: DESCENDING}
    # Both words have the same letters now.
    for a in last_stands(one):
        for b in last_stands(one):
            if (one.rfind(a) < one.rfind(b)) != (other.rfind(a) < other.rfind(b)):
                return {a: ASCENDING, b: DESCENDING}
        uneven = odd_letters(behind_last(one, a) + behind_last(other, a))
        if uneven:
            return {a: ASCENDING, uneven[0]: TURN}
    return None


def judge_words(one, other):
    """Return that two words are alike, or a choice and two cards that they set otherwise."""
    need_word(one)
    need_word(other)
    throws = parting_throws(one, other)
    if throws is None:
        return ("alike",)
    return ("apart", tuple([throws.get(letter, STILL) for letter in LETTERS]), (0, 1))


def set_apart(one, other, choice, deck):
    """Tell whether any values are a choice of two kinds and two cards that two words set otherwise."""
    if not is_choice(choice) or size_of(choice[0]) != 2:
        return False
    if not is_deck(2, deck) or len(deck) != 2:
        return False
    return order_after(throw_of(one, choice), deck) != order_after(throw_of(other, choice), deck)


def words_hold(one, other, thing):
    """Tell whether any value is a certificate for two words."""
    need_word(one)
    need_word(other)
    if is_marked(thing, "alike", 1):
        return parting_throws(one, other) is None
    return is_marked(thing, "apart", 3) and set_apart(one, other, thing[1], thing[2])


def are_alike_kept(one, other):
    """Tell whether two words have the same throw by each choice of throws whose lots are all kept."""
    return last_stands(one) == last_stands(other)


def plain_word(word):
    """Return the shortest word that is alike to a word, the first one of several."""
    plain = ""
    rest = word
    for letter in last_stands(word):
        gap, _, rest = rest.rpartition(letter)
        plain += odd_letters(gap) + letter
    return plain


def need_number_up_to(thing, most):
    """Raise BadNumber with any value that is no integer from 0 to most."""
    if not is_within(thing, 0, most):
        raise BadNumber(thing)


def plain_number(n):
    """Return how many plain words have letters among the first n ones alone."""
    need_number_up_to(n, 5)
    number = 0
    stands = 1
    for j in range(n + 1):
        # Here stands is n (n - 1) .. (n - j + 1): the rows in which j letters can stand last.
        number += stands << (j * (j + 1) // 2)
        stands *= n - j
    return number


def some_of(letters):
    """Return all words that have some of the letters, each once, in their row."""
    found = [""]
    for letter in letters:
        found = found + [word + letter for word in found]
    return found


def one_stand_longer(word, letters):
    """Return the plain words that have one last stand more than a plain word, ahead of all of it."""
    longer = []
    for letter in letters:
        if letter not in word:
            later = [other for other in letters if other in word + letter]
            longer.extend([gap + letter + word for gap in some_of(later)])
    return longer


def all_plain(n):
    """Return all plain words with letters among the first n ones alone, shorter ones first."""
    need_number_up_to(n, 3)
    letters = LETTERS[:n]
    found = [""]
    longest = [""]
    for _ in letters:
        longest = [longer for word in longest for longer in one_stand_longer(word, letters)]
        found.extend(longest)
    return tuple([word for _, word in sorted([(len(word), word) for word in found])])
