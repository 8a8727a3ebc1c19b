"""What numbers of rights come of others [descents.py]: depths, ranks, weights, ways."""

from relatedrights.askers import Asker
from relatedrights.nets import holds_really

# More than any depth or rank.
LARGE = 1000000000000


class Looking:
    """No numbers: it is enough to know whether there is a ring."""

    def __init__(self):
        self.given = 0

    def step(self, word, number):
        """Return 0."""
        return 0

    def either(self, numbers):
        """Return 0."""
        return 0

    def combine(self, node, shape, leaves):
        """Return 0."""
        return 0


class Telling:
    """Depths: LARGE for a "yes" at the depth 1, 1 less for each depth more; the negative of this for a "no".

    So of an either the greatest number counts, of a both the least one.
    """

    def __init__(self):
        self.given = LARGE

    def step(self, word, number):
        """Return the number that a leaf with this word gives by that of a right."""
        return number - 1 if number > 0 else number + 1

    def either(self, numbers):
        """Return the number of an either by those of its parts, or of a leaf."""
        return max(numbers) if numbers else -LARGE

    def combine(self, node, shape, leaves):
        """Return the number of a shape by the numbers that each leaf gives."""
        if isinstance(shape, int):
            return self.either(leaves[shape])
        found = [self.combine(node, part, leaves) for part in shape[1:]]
        if shape[0] == "but":
            return min(found[0], -found[1])
        return max(found) if shape[0] == "either" else min(found)


class Deciding:
    """Numbers for what a user has, where it is known what buts take away, and None for what it has not."""

    def __init__(self, tables, index, user, given):
        self.given = given
        self.tables = tables
        self.asker = Asker(tables, index, user)

    def combine(self, node, shape, leaves):
        """Return the number of a shape by the numbers that each leaf gives."""
        if isinstance(shape, int):
            return self.either(leaves[shape])
        if shape[0] == "but":
            if holds_really(self.tables, self.asker, node, shape[2]):
                return None
            return self.combine(node, shape[1], leaves)
        found = [self.combine(node, part, leaves) for part in shape[1:]]
        told = [number for number in found if number is not None]
        if shape[0] == "either":
            return self.either(told)
        return self.both(told) if len(told) == len(found) else None

    def either(self, numbers):
        """Return the number of which one of these is enough, None if there are none."""
        return None

    def both(self, numbers):
        """Return the number for which each of these is needed."""
        return None


class Ranking(Deciding):
    """Ranks."""

    def __init__(self, tables, index, user):
        Deciding.__init__(self, tables, index, user, 1)

    def step(self, word, number):
        """Return the number that a leaf with this word gives by that of a right."""
        return number + 1

    def either(self, numbers):
        """Return the number of which one of these is enough, None if there are none."""
        return min(numbers) if numbers else None

    def both(self, numbers):
        """Return the number for which each of these is needed."""
        return max(numbers)


class Weighing(Ranking):
    """Weights."""

    def step(self, word, number):
        """Return the number that a leaf with this word gives by that of a right."""
        return number if word == "same" else number + 1

    def both(self, numbers):
        """Return the number for which each of these is needed."""
        return sum(numbers)


class Counting(Deciding):
    """Ways, as tuples (ways, rounds): within so many rounds and more there are so many ways, or the limit."""

    def __init__(self, tables, index, user, limit):
        Deciding.__init__(self, tables, index, user, (1, 1))
        self.limit = limit

    def step(self, word, number):
        """Return the number that a leaf with this word gives by that of a right."""
        return (number[0], number[1] + 1)

    def either(self, numbers):
        """Return the number of which one of these is enough, None if there are none."""
        if not numbers:
            return None
        return (min(self.limit, sum([ways for ways, _ in numbers])), max([rounds for _, rounds in numbers]))

    def both(self, numbers):
        """Return the number for which each of these is needed."""
        many = 1
        for ways, _ in numbers:
            many = min(self.limit, many * ways)
        return (many, max([rounds for _, rounds in numbers]))
