"""Needs: what has still to come behind a word that is begun, so that one deed at most leads to what a table lets.

A table tells words, as in the module states. Of a word that is begun two things are told. Its way: to which states it
leads all states, or those that are behind a joint, as it may come to stand behind one. And its needs: a number with a
bit for each tuple of an end and a state such that, if what comes leads this state to this end, the word is let, or is
once the part behind one of its joints stands ahead of it. The bit of a tuple is the end, as often as there are states,
and the state. The needs with each letter behind are one number, those for a next letter above those for the last one.
"""

from sideswaps.patterns import texts_over

# By what words of so many letters, and fewer, do behind them, most begun words that are unlike are told apart.
TRIED = 3


class Needs:
    """All begun words behind which not the same may come, each numbered as soon as letters lead to it.

    Each is told by the tuple of the number of its way and of its needs.
    """

    def __init__(self, moves, let, letters, joints):
        self.leading = moves
        self.let = let
        self.size = len(moves)
        self.joined = [letter in joints for letter in letters]
        self.behind = sorted({row[at] for row in moves for at, is_joint in enumerate(self.joined) if is_joint})
        self.ways, self.steps = _ways_and_steps(moves)
        firsts = {}
        self.alike = [
            firsts.setdefault(tuple([way[state] for state in self.behind]), number)
            for number, way in enumerate(self.ways)
        ]
        self.shifts = [at * self.size * self.size for at in range(len(letters))]
        self.begun = self._needs_begun()
        self.images = _joined_by_part([
            _joined([1 << (shift + state) for shift, state in zip(self.shifts, row)]) for row in moves
        ])
        bits = _bits_led(self.ways)
        self.covers = [_joined_by_part(bits[end * self.size:(end + 1) * self.size]) for end in range(self.size)]
        self.met = {}
        first = (0, _joined([1 << (end * self.size) for end, each in enumerate(let) if each]))
        self.order, self.number, self.rows = [first], {self._key_of(first): 0}, {}

    def _needs_begun(self):
        """For each way the needs that come with each letter as the part behind it begins, in the state 0.

        The part ahead of this letter does what it has to if it then leads on to a state that lets.
        """
        begun = [0] * self.size
        for end, row in enumerate(self.leading):
            for state, is_joint, shift in zip(row, self.joined, self.shifts):
                if is_joint:
                    begun[state] |= 1 << (shift + end * self.size)
        return [_joined([bits for bits, end in zip(begun, way) if self.let[end]]) for way in self.ways]

    def row_of(self, spot):
        """For each letter the number of the begun word with it behind one with a number."""
        if spot not in self.rows:
            row, found = [], self._led(self.order[spot])
            for begun in found:
                key = self._key_of(begun)
                if key not in self.number:
                    self.number[key] = len(self.order)
                    self.order.append(begun)
                row.append(self.number[key])
            self.rows[spot] = row
        return self.rows[spot]

    def is_within(self, spot):
        """Whether at most one deed leads from a begun word to one that is let, if nothing comes behind it."""
        # The first way is that of the word without letters.
        return self._key_of(self.order[spot])[0] & 1 == 1

    def _led(self, begun):
        """For each letter a begun word with it behind."""
        way, left = begun
        made, shift, low = self.begun[way], 0, (1 << self.size) - 1
        while left:
            made |= self.images[left & low] << shift
            left >>= self.size
            shift += self.size
        full = (1 << (self.size * self.size)) - 1
        return [(step, (made >> more) & full) for step, more in zip(self.steps[way], self.shifts)]

    def _key_of(self, begun):
        """A tuple that is equal for two begun words only if the same may come behind them."""
        way, needs = begun
        if needs not in self.met:
            ways, left, low = 0, needs, (1 << self.size) - 1
            for cover in self.covers:
                ways |= cover[left & low]
                left >>= self.size
            self.met[needs] = ways
        ways = self.met[needs]
        # If whatever comes will do, the way does not matter.
        return ways, 0 if ways == (1 << len(self.ways)) - 1 else self.alike[way]


def _ways_and_steps(moves):
    """The unlike ways in which words lead all states, and for each the numbers of those with a letter behind."""
    order = [tuple(range(len(moves)))]
    number, steps = {order[0]: 0}, []
    while len(steps) < len(order):
        row = []
        for at in range(len(moves[0])):
            made = tuple([moves[state][at] for state in order[len(steps)]])
            if made not in number:
                number[made] = len(order)
                order.append(made)
            row.append(number[made])
        steps.append(row)
    return order, steps


def _bits_led(ways):
    """For the bit of each tuple of an end and a state a number with the bits of those of some ways that lead so."""
    size = len(ways[0])
    found = [0] * (size * size)
    for number, way in enumerate(ways):
        for state, end in enumerate(way):
            found[end * size + state] |= 1 << number
    return found


def _joined(numbers):
    """All bits of some numbers."""
    joined = 0
    for number in numbers:
        joined |= number
    return joined


def _joined_by_part(numbers):
    """For each number whose bits are spots of some numbers: all bits of the numbers at these spots."""
    found = [0]
    for number in numbers:
        found.extend([each | number for each in found])
    return found


class Trial:
    """What words of few letters do behind begun words."""

    def __init__(self, needs, letters):
        self.needs = needs
        texts = [text for size in range(TRIED + 1) for text in texts_over(letters, size)]
        number = {"": 0}
        for text in texts[1:]:
            number[text] = needs.steps[number[text[:-1]]][letters.index(text[-1])]
        ways = {text: needs.ways[number[text]] for text in texts}
        self.by_bit = _bits_led([ways[text] for text in texts])
        self.by_state = {}
        for spot, text in enumerate(texts):
            for key in _met_by(text, ways, needs, letters):
                self.by_state[key] = self.by_state.get(key, 0) | (1 << spot)
        self.of_way, self.of_needs, self.seen = {}, {}, {}

    def told_apart(self, states):
        """How many of some begun words, and of all that were asked for before, these words tell apart."""
        for way, needs in states:
            if way not in self.of_way:
                led = self.needs.ways[way]
                self.of_way[way] = _joined([self.by_state.get((state, led[state]), 0) for state in self.needs.behind])
            if needs not in self.of_needs:
                self.of_needs[needs] = _joined([each for bit, each in enumerate(self.by_bit) if (needs >> bit) & 1])
            self.seen[self.of_way[way] | self.of_needs[needs]] = True
        return len(self.seen)


def _met_by(text, ways, needs, letters):
    """The tuples of two states with which a word does what it has to if a part begins within it.

    What is behind one of its joints leads on to the first state, behind this joint. If the begun word leads this one to
    the second state, what is ahead of the joint has to lead on to a state that lets.
    """
    found = []
    for place, letter in enumerate(text):
        at = letters.index(letter)
        if needs.joined[at]:
            behind = needs.leading[ways[text[place + 1:]][0]][at]
            found.extend([(behind, state) for state, end in enumerate(ways[text[:place]]) if needs.let[end]])
    return found


def table_within(moves, let, letters, joints, most):
    """A table of the words from which at most one deed leads to a word that another table lets.

    None if it is seen soon that more unlike states than a number are due.
    """
    needs = Needs(moves, let, letters, joints)
    trial, tried, spot = None, 0, 0
    while spot < len(needs.order):
        needs.row_of(spot)
        spot += 1
        if len(needs.order) > 2 * most:
            if trial is None:
                trial = Trial(needs, letters)
            if trial.told_apart(needs.order[tried:]) > most:
                return None
            tried = len(needs.order)
    return [needs.row_of(each) for each in range(spot)], [needs.is_within(each) for each in range(spot)]
