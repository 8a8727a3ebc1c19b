"""Offers of two who write, and where they can be done.

The worlds [worlds.py] are states that differ in the rows that offers change.
"""

from relatedrights.errors import InvalidChange
from relatedrights.rows import are_rows
from relatedrights.rulings import is_step, right_for
from relatedrights.worlds import Worlds, half_patterns


def is_offer(tables, value):
    """Return whether any object is an offer."""
    if not isinstance(value, tuple) or len(value) != 4 or not is_step(tables, value[:2]):
        return False
    return all([isinstance(rows, (list, tuple)) and are_rows(tables, rows) for rows in value[2:]])


def require_offers(tables, offers, most):
    """Raise InvalidChange for any object that is not a list or tuple of at most so many offers."""
    if not isinstance(offers, (list, tuple)) or len(offers) > most:
        raise InvalidChange(-1)
    for k, offer in enumerate(offers):
        if not is_offer(tables, offer):
            raise InvalidChange(k)


def rows_changed(offers):
    """Return the different rows that offers change."""
    return list({offer[1][1]: True for offer in offers})


class Able:
    """Where offers can be done.

    patterns: {row: the worlds in which it is there}, for the rows that offers change. The questions are
    tuples (node, user) that may be asked, too.
    """

    def __init__(self, tables, rules, index, offers, many, patterns, questions):
        self.index = index
        self.rules = rules
        self.patterns = patterns
        self.worlds = Worlds(tables, index, many, patterns)
        asked = list(questions)
        for offer in offers:
            right = right_for(rules, offer[1])
            if right is not None:
                asked.append(((offer[1][1][0], right), offer[0]))
        nodes = {node: True for node, _ in asked}
        self.worlds.look_for(list(nodes), list({user: True for _, user in asked}))

    def there(self, row):
        """Return the pattern of the worlds in which a row is there."""
        if row in self.patterns:
            return self.patterns[row]
        return self.worlds.every if self.index.has(row) else 0

    def where(self, offer):
        """Return the pattern of the worlds in which an offer can be done."""
        user, change, there, absent = offer
        right = right_for(self.rules, change)
        if right is None:
            return 0
        pattern = self.worlds.worlds_of((change[1][0], right), user)
        pattern &= ~self.there(change[1]) if change[0] == "put" else self.there(change[1])
        for row in there:
            pattern &= self.there(row)
        for row in absent:
            pattern &= ~self.there(row)
        return pattern


class Grid:
    """The clean beginnings of two lists of offers, by how many they take of each.

    firsts and seconds: for each offer the pattern of the worlds in which it can be done, where the world
    behind i and j offers has the number that `at` tells. ways: what `grid` returns [12.1].
    """

    def __init__(self, tables, rules, index, one, other):
        self.one = one
        self.other = other
        offers = [*one, *other]
        many = (len(one) + 1) * (len(other) + 1)
        patterns = {row: self.presence(row, 1 if index.has(row) else 0) for row in rows_changed(offers)}
        self.index = index
        self.able = Able(tables, rules, index, offers, many, patterns, [])
        self.firsts = [self.able.where(offer) for offer in one]
        self.seconds = [self.able.where(offer) for offer in other]
        self.ways = [[0] * (len(other) + 1) for _ in range(len(one) + 1)]
        self.ways[0][0] = 1
        for i in range(len(one) + 1):
            for j in range(len(other) + 1):
                if self.can_first(i, j):
                    self.ways[i + 1][j] += self.ways[i][j]
                if self.can_second(i, j):
                    self.ways[i][j + 1] += self.ways[i][j]

    def at(self, i, j):
        """Return the number of the world behind i and j offers, if a clean beginning takes them."""
        return i * (len(self.other) + 1) + j

    def presence(self, row, first):
        """Return the pattern of the worlds in which a row is there, of which there are `first` in the state."""
        # Behind clean beginnings only puts of what is not there have been done, and takes of what is.
        counts = counts_of(self.other, row)
        blocks = {}
        for count in counts_of(self.one, row):
            blocks[count] = sum([1 << j for j, more in enumerate(counts) if first + count + more > 0])
        return sum([blocks[count] << self.at(i, 0) for i, count in enumerate(counts_of(self.one, row))])

    def can_first(self, i, j):
        """Return whether the next offer of the first list can be done behind i and j offers."""
        return i < len(self.one) and self.firsts[i] >> self.at(i, j) & 1 == 1

    def can_second(self, i, j):
        """Return whether the next offer of the second list can be done behind i and j offers."""
        return j < len(self.other) and self.seconds[j] >> self.at(i, j) & 1 == 1


def counts_of(offers, row):
    """Return how many more puts than takes of a row there are in the first 0, 1, 2 .. offers."""
    found = [0]
    for _, change, _, _ in offers:
        more = 0
        if change[1] == row:
            more = 1 if change[0] == "put" else -1
        found.append(found[-1] + more)
    return found


class Outcomes:
    """What all orders of two lists of offers lead to, where an offer that can not be done changes nothing.

    Bit k of the number of a world tells whether row k, of those that offers change, is there. found: {world:
    how many orders lead to it}.
    """

    def __init__(self, tables, rules, index, one, other, questions):
        offers = [*one, *other]
        self.touched = rows_changed(offers)
        self.places = {row: k for k, row in enumerate(self.touched)}
        start = sum([1 << k for k, row in enumerate(self.touched) if index.has(row)])
        patterns = {row: half for row, half in zip(self.touched, half_patterns(len(self.touched)))}
        self.others = [row for row in index.rows() if row not in self.places]
        self.able = Able(tables, rules, index, offers, 1 << len(self.touched), patterns, questions)
        firsts = [(self.able.where(offer), self.places[offer[1][1]]) for offer in one]
        seconds = [(self.able.where(offer), self.places[offer[1][1]]) for offer in other]
        ahead = {(0, 0): {start: 1}}
        for _ in offers:
            behind = {}
            for (i, j), worlds in ahead.items():
                if i < len(one):
                    add_worlds(behind.setdefault((i + 1, j), {}), worlds, firsts[i])
                if j < len(other):
                    add_worlds(behind.setdefault((i, j + 1), {}), worlds, seconds[j])
            ahead = behind
        self.found = ahead[(len(one), len(other))]

    def state(self, world):
        """Return the ascending tuple of the rows in a world."""
        return tuple(sorted(self.others + [row for k, row in enumerate(self.touched) if world >> k & 1]))


def add_worlds(found, worlds, offer):
    """Add to {world: number of orders} what an offer makes of another such dict."""
    where, place = offer
    for world, number in worlds.items():
        if where >> world & 1:
            world ^= 1 << place
        found[world] = found.get(world, 0) + number
