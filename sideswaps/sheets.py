"""Sheets: which words of one pattern a table of states lets, counted without any word being made."""

from sideswaps.counting import power


class Sheet:
    """For each place of a pattern and each state: how many ways to go on from there lead to what is let.

    The ways are told apart by how often they take each joint but the first one, of which they take all the rest. How
    many there are of each kind stands in a field of bits, wide enough for all of them, and all fields are one number:
    so to take a joint is to shift this number, whatever the ways are.
    """

    def __init__(self, pattern, kept, held, leads, let):
        self._pattern = pattern
        self._kept = kept
        self._held = held
        self._leads = leads
        stars = pattern.count("*")
        self._width = power(len(kept), stars).bit_length()
        # A joint is taken at most at all stars, so that its fields end where those of the next joint begin.
        weights = [self._width * power(stars + 1, at) for at in range(len(kept) - 1)]
        self._shifts = dict(zip(kept, [0] + weights))
        layers = [[1 if each else 0 for each in let]]
        for sign in pattern[::-1]:
            layers.append(self._layer_ahead(sign, layers[-1]))
        self._layers = layers[::-1]

    def _layer_ahead(self, sign, layer):
        """The numbers of ways ahead of a sign, by those behind it."""
        if sign != "*":
            return [layer[led] for led in self._leads[sign]]
        return [
            sum([layer[self._leads[letter][state]] << self._shifts[letter] for letter in self._kept])
            for state in range(len(layer))
        ]

    def _ways(self, spot, state, left):
        """How many ways to go on from a place and a state are let, with the joints that are left."""
        field = sum([self._shifts[letter] * many for letter, many in zip(self._kept, left)])
        return (self._layers[spot][state] >> field) & ((1 << self._width) - 1)

    def many(self):
        """How many words are let."""
        return self._ways(0, 0, self._held)

    def first(self):
        """The first word that is let, if there is one."""
        text, state, left = "", 0, self._held
        for spot, sign in enumerate(self._pattern):
            letter = sign
            if sign == "*":
                letter, left = self._first_taken(spot, state, left)
            text += letter
            state = self._leads[letter][state]
        return text

    def _first_taken(self, spot, state, left):
        """The first joint with which a way goes on that is let, and the joints that are left then."""
        for at, letter in enumerate(self._kept):
            if left[at] > 0:
                rest = left[:at] + [left[at] - 1] + left[at + 1:]
                if self._ways(spot + 1, self._leads[letter][state], rest) > 0:
                    return letter, rest
        return "", left
