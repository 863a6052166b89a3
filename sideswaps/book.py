"""A live book: prices and a word, changed step by step."""

from sideswaps.errors import InvalidDeed, NothingToRedo, NothingToUndo
from sideswaps.fewest import cheapest
from sideswaps.roads import first_deeds
from sideswaps.words import check_prices, check_word, is_count, is_letter, sides_changed


class SwapBook:
    """Prices and a word that are changed by steps, which can be taken back and done again."""

    def __init__(self, prices, word):
        check_prices(prices)
        check_word(word)
        self._page = Page(prices, word, 0, word, 0)
        self._behind = []
        self._steps = []
        self._undone = []

    def prices(self):
        """The prices as they are now."""
        return list(self._page.fees)

    def word(self):
        """The word as it is now."""
        return self._page.text

    def spent(self):
        """What the deeds cost that are done and not taken back."""
        return self._page.paid

    def do(self, step):
        """Do a step."""
        if not _can_do(self._page, step):
            raise InvalidDeed(step)
        self._done(step)
        self._undone = []

    def _done(self, step):
        """Do what surely is a step that can be done now."""
        self._behind.append(self._page)
        self._page = _page_behind(self._page, step)
        self._steps.append(step)

    def undo(self):
        """Take the last step back."""
        if not self._steps:
            raise NothingToUndo()
        self._undone.append(self._steps.pop())
        self._page = self._behind.pop()

    def redo(self):
        """Do the step again that was taken back last."""
        if not self._undone:
            raise NothingToRedo()
        self._done(self._undone.pop())

    def log(self):
        """The steps that are done and not taken back."""
        return list(self._steps)

    def copy(self):
        """A book that is equal to this one and goes its own way from then on."""
        made = SwapBook(list(self._page.fees), self._page.text)
        made._page = self._page
        made._behind = list(self._behind)
        made._steps = list(self._steps)
        made._undone = list(self._undone)
        return made

    def cost_to(self, other):
        """The least price of a road from the word to another one, None if there is none."""
        return cheapest(self._page.text, other, self._page.fees)

    def waste(self):
        """By how much the last deeds cost more than a road of the least price that leads where they lead."""
        page = self._page
        return page.paid - page.paid_ahead - cheapest(page.begun, page.text, page.fees)

    def cheap_steps(self, other):
        """The steps with which a road of the least price to another word can begin."""
        places = first_deeds(self._page.text, other, self._page.fees)
        return [("swap", place) for place in places] if places else []

    def __eq__(self, other):
        return (
            isinstance(other, SwapBook) and self._page.fees == other._page.fees
            and self._page.text == other._page.text and self._steps == other._steps
        )


class Page:
    """What a book keeps, as it is between two steps.

    Beside the prices, the word and what is paid for deeds, these are the word, and what was paid, behind the last step
    that was no deed.
    """

    def __init__(self, fees, text, paid, begun, paid_ahead):
        self.fees = list(fees)
        self.text = text
        self.paid = paid
        self.begun = begun
        self.paid_ahead = paid_ahead


def _page_behind(page, step):
    """The page behind what surely is a step that can be done."""
    if step[0] == "swap":
        place = step[1]
        paid = page.paid + dict(page.fees)[page.text[place]]
        return Page(page.fees, sides_changed(page.text, place), paid, page.begun, page.paid_ahead)
    fees = [item for item in page.fees if item[0] != step[1]]
    if step[0] == "price":
        fees = sorted(fees + [(step[1], step[2])])
    return Page(fees, page.text, page.paid, page.text, page.paid)


def _can_do(page, value):
    """Whether a value is a step that can be done on a page."""
    if not isinstance(value, tuple) or len(value) < 2 or not isinstance(value[0], str):
        return False
    if value[0] == "price":
        return len(value) == 3 and is_letter(value[1]) and is_count(value[2]) and value[2] >= 1
    if len(value) != 2:
        return False
    if value[0] == "swap":
        return is_count(value[1]) and value[1] < len(page.text) and page.text[value[1]] in dict(page.fees)
    return value[0] == "body" and is_letter(value[1]) and value[1] in dict(page.fees)


def is_step(book, value):
    """Whether a value is a step that can be done now."""
    if not isinstance(book, SwapBook):
        raise InvalidDeed(book)
    return _can_do(book._page, value)
