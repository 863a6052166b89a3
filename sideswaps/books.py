"""Books: which letters have to be joints, so that one word comes to another one."""

from sideswaps.errors import InvalidNumber, Unlike
from sideswaps.laying import word_ties
from sideswaps.ties import value_of_ties
from sideswaps.words import check_prices, check_two_priced, check_word, is_count


def _same_letters(word, other):
    """Whether two words have the same letters, each as often."""
    return sorted(word) == sorted(other)


def _book_of(ties):
    """The letters of the signs of some ties."""
    return "".join(sorted({sign for tie in ties for sign in tie if sign != "_"}))


def lie_book(word, other, lie):
    """The letters on, or under, the unlike cells of a lie of two words."""
    check_word(word)
    check_word(other)
    if not is_count(lie) or lie > len(word):
        raise InvalidNumber(lie)
    if not _same_letters(word, other):
        raise Unlike(other)
    return _book_of(word_ties(word, other, lie))


def least_books(word, other):
    """All books by which one word comes to another one, while it does not with letters left out."""
    check_word(word)
    check_word(other)
    if not _same_letters(word, other):
        return []
    return least_of([_book_of(word_ties(word, other, lie)) for lie in range(len(word) + 1)])


def least_of(books):
    """Those of some books that have all letters of no other one, in the order of words, each once."""
    found = []
    for _, book in sorted({(len(book), book) for book in books}):
        if not has_one_of(book, found):
            found.append(book)
    return found


def has_one_of(book, books):
    """Whether a book has all letters of one of some books."""
    return any([all([letter in book for letter in each]) for each in books])


def cheapest_book(word, other, fees):
    """The least sum of fees of a book by which one word comes to another one, with this book; None if none does."""
    check_two_priced(word, other, fees)
    costs = dict(fees)
    found = []
    for book in least_books(word, other):
        if all([letter in costs for letter in book]):
            found.append((sum([costs[letter] for letter in book]), len(book), book))
    return _total_and_book(found)


def _total_and_book(found):
    """The least of some tuples of a total, the length of a book and this book, without the length; None if none is."""
    if not found:
        return None
    total, _, book = min(found)
    return (total, book)


def cheapest_plan(word, other, fees, prices):
    """The least sum of the fees of a book and of the price of a road by it, with this book; None if there is none."""
    check_two_priced(word, other, fees)
    check_prices(prices)
    if not _same_letters(word, other):
        return None
    costs, by_deed = dict(fees), dict(prices)
    found = []
    for lie in range(len(word) + 1):
        ties = word_ties(word, other, lie)
        book = _book_of(ties)
        if all([letter in costs and letter in by_deed for letter in book]):
            total = sum([costs[letter] for letter in book]) + value_of_ties(ties, by_deed)
            found.append((total, len(book), book))
    return _total_and_book(found)
