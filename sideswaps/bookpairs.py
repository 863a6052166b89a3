"""Books tried on pairs of words, and compared on all words of a length."""

from sideswaps.books import has_one_of, least_books, least_of
from sideswaps.counting import power
from sideswaps.errors import InvalidList, TooMany
from sideswaps.patterns import numbers_by_class, texts_over
from sideswaps.words import check_count, check_joints, is_word

MOST_WORDS = 3000


def _is_pair(value):
    """Whether a value is a tuple of two words."""
    return isinstance(value, tuple) and len(value) == 2 and is_word(value[0]) and is_word(value[1])


def _check_pairs(value):
    """Refuse what is no list of tuples of two words."""
    if not isinstance(value, list) or not all([_is_pair(item) for item in value]):
        raise InvalidList(value)


def books_tried(pairs, refused):
    """The least books by which all pairs come to one another, each with the first refused pair that does, too."""
    _check_pairs(pairs)
    _check_pairs(refused)
    books = [""]
    for one, other in pairs:
        books = least_of([_joined(first, second) for first in books for second in least_books(one, other)])
    barred = [least_books(one, other) for one, other in refused]
    return [(book, _first_led(book, barred)) for book in books]


def _joined(first, second):
    """The book of all letters of two books."""
    return "".join(sorted(set(first + second)))


def _first_led(book, barred):
    """The first number in a list of lists of least books of those of which a book has one; None if it has none."""
    return min([number for number, least in enumerate(barred) if has_one_of(book, least)], default=None)


def explaining(pairs, refused):
    """The least books by which all pairs come to one another, and no refused pair does."""
    return [book for book, number in books_tried(pairs, refused) if number is None]


def _check_compared(one, other, letters, size):
    """Refuse what is no book, then no book, then no book, then no count."""
    check_joints(one)
    check_joints(other)
    check_joints(letters)
    check_count(size)


def _lacking(book, letters):
    """How many of some letters a book lacks."""
    return len([letter for letter in letters if letter not in book])


def books_alike(one, other, letters, size):
    """Whether two books lead the same words of a size to one another."""
    return book_within(one, other, letters, size) and book_within(other, one, letters, size)


def book_within(one, other, letters, size):
    """Whether, of all words of a size, another book leads those to one another that a book does."""
    _check_compared(one, other, letters, size)
    if size < 2 or len(letters) < 2:
        return True
    if all([letter in other for letter in letters if letter in one]):
        return True
    return size == 2 and _lacking(other, letters) <= 1


def parting_words(one, other, letters, size):
    """The first tuple of two words of a size of which just one of two books leads the first to the second."""
    words = _words_compared(one, other, letters, size)
    if books_alike(one, other, letters, size):
        return None
    return _first_parted(words, [(one, other), (other, one)])


def outside_words(one, other, letters, size):
    """The first tuple of two words of a size of which one book leads the first to the second, and another does not."""
    words = _words_compared(one, other, letters, size)
    if book_within(one, other, letters, size):
        return None
    return _first_parted(words, [(one, other)])


def _words_compared(one, other, letters, size):
    """All words of a size, in order; too many of them are refused behind all that is wrong with what is handed in."""
    _check_compared(one, other, letters, size)
    many = power(len(letters), size)
    if many > MOST_WORDS:
        raise TooMany(many)
    return texts_over(letters, size)


def _first_parted(words, ways):
    """The first tuple of two of some words of which one book leads the first to the second, and another book does not.

    The two books are one of some tuples; None if there are no such words.
    """
    classes = {book: _classes_by(words, book) for book in ways[0]}
    for number, word in enumerate(words):
        found = []
        for leading, other in ways:
            barred = classes[other]
            found.extend([each for each in classes[leading][number] if barred[each] != barred[number]])
        if found:
            return (word, words[min(found)])
    return None


def _classes_by(words, book):
    """For each number of some words the list of the numbers of its class by a book."""
    found = {}
    for members in numbers_by_class(words, book):
        for number in members:
            found[number] = members
    return found
