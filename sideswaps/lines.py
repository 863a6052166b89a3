"""Lines: prices and a word written as one string."""

from sideswaps.errors import InvalidLine
from sideswaps.words import check_prices, check_word, is_letter

LONGEST_LINE = 2000


def line_of(prices, word):
    """The line of prices and a word."""
    check_prices(prices)
    check_word(word)
    return ",".join([f"{letter}={price}" for letter, price in prices]) + ":" + word


def of_line(line):
    """The prices and the word that have a line."""
    if not isinstance(line, str) or ":" not in line or _right_signs(line) < len(line):
        raise InvalidLine(line)
    head, _, word = line.partition(":")
    # In a line that is right so far, each part has a letter and "=" ahead of its figures.
    prices = [(part[0], int(part[2:])) for part in head.split(",")] if head else []
    return (prices, word)


def right_part(line):
    """The longest beginning of a string with which a line begins."""
    if not isinstance(line, str) or len(line) > LONGEST_LINE:
        raise InvalidLine(line)
    return line[:_right_signs(line)]


def _right_signs(line):
    """How many signs the longest beginning of a string has with which a line begins."""
    last, ahead = "", ""
    for many, sign in enumerate(line):
        if not _can_follow(ahead, sign, last):
            return many
        if ahead in ("", ","):
            last = sign
        # All letters of the word stand behind the colon alike.
        if ahead != ":":
            ahead = sign
    return len(line)


def _can_follow(ahead, sign, last):
    """Whether a sign can follow another one, or none, in a line whose last price so far is for a letter."""
    if ahead == ":":
        return is_letter(sign)
    if ahead == "":
        return is_letter(sign) or sign == ":"
    if ahead == ",":
        return is_letter(sign) and sign > last
    if ahead == "=":
        return "1" <= sign <= "9"
    if is_letter(ahead):
        return sign == "="
    # Behind "z" no letter is left for another price.
    return "0" <= sign <= "9" or sign == ":" or sign == "," and last < "z"
