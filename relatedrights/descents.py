"""Numbers of rights, each found from those of all that it reads, where no right reads itself by a ring.

A NODE is a right to a thing, as a tuple (thing, relation); the LEAVES of its rule and its SHAPE are those of
[Tables.leaves_by].
"""

# No number is the same.
UNKNOWN = -1


class Descent:
    """The numbers of nodes, and of all that they read, for one user.

    sums says what numbers come of others: given, of a row that tells the user outright; step(word, number), of
    a right that is read by a leaf with this word; either(numbers), of any numbers of which one is enough;
    combine(node, shape, leaves), of the shape of a rule by the numbers that each of its leaves gives. numbers:
    {node: number}, where None stands for none, of which nothing comes. plans: {(kind, right): (entries, many,
    shape)}, where an entry is (place, word, shelf, name), a shelf of the index by which the leaf with this place
    gives or reads; of the right with this name, if it is not told by the shelf itself.
    """

    def __init__(self, tables, index, user, sums):
        self.tables = tables
        self.index = index
        self.sums = sums
        self.own_subject = ("one", user)
        self.kind_subject = ("all", user[0])
        self.numbers = {}
        self.plans = {}

    def settle_all(self, roots):
        """Find the numbers of nodes; return whether there is no ring in what they lead to."""
        for root in roots:
            # Mostly all that a node reads is known by now, and one look is enough.
            if root not in self.numbers and self.look_at(root)[0] and not self.settle(root):
                return False
        return True

    def settle(self, root):
        """Find the number of a node; return whether there is no ring in what it leads to."""
        numbers = self.numbers
        waiting = [root]
        # For each of these the word of the leaf by which it takes over the number of the one behind it, or None.
        words = [None]
        way = {}
        while waiting:
            node = waiting[-1]
            if node not in numbers:
                missing, word = self.look_at(node)
                if missing:
                    way[node] = True
                    for other in missing:
                        if other in way:
                            return False
                        waiting.append(other)
                        words.append(None)
                    words[-1 - len(missing)] = word
                    continue
            number = numbers[node]
            waiting.pop()
            words.pop()
            while words and words[-1] is not None:
                word = words.pop()
                if number is not None:
                    number = self.sums.step(word, number)
                numbers[waiting.pop()] = number
        return True

    def look_at(self, node):
        """Find the number of a node, if all that it reads is known; otherwise return what is not, and a word.

        The word is that of the leaf by which one other node is read, if the rule is told by it alone; else None.
        """
        thing, relation = node
        plan = self.plans.get((thing[0], relation))
        if plan is None:
            plan = self.plan(thing[0], relation)
        entries, many, shape = plan
        numbers = self.numbers
        found = [[]] if many == 1 else [[] for _ in range(many)]
        missing = []
        last = None
        for place, word, shelf, name in entries:
            subjects = shelf.get(thing) if word != "same" else ((word, thing),)
            if not subjects:
                continue
            if word == "direct":
                told = [subject for subject in (self.own_subject, self.kind_subject) if subject in subjects]
                found[place].extend([self.sums.given] * len(told))
                continue
            for subject in subjects:
                other = (subject[1], name or subject[2])
                number = numbers.get(other, UNKNOWN)
                if number == UNKNOWN:
                    missing.append(other)
                    last = word
                elif number is not None:
                    found[place].append(self.sums.step(word, number))
        if not missing:
            numbers[node] = self.number_by(node, shape, found)
        elif len(missing) > 1 or shape is not None or found[0]:
            # There is more than this one that the number may come of.
            last = None
        return missing, last

    def plan(self, kind, relation):
        """Return the plan of a right; the shape is None where one leaf of the rule is enough, whichever it is."""
        leaves, shape = self.tables.leaves_by(kind, relation)
        entries = []
        for place, leaf in enumerate(leaves):
            if leaf[0] == "same":
                entries.append((place, "same", {}, leaf[1]))
            elif leaf[0] == "through":
                entries.append((place, "through", self.index.plain(kind, leaf[1]), leaf[2]))
            else:
                entries.append((place, "direct", self.index.plain(kind, relation), ""))
                entries.append((place, "who", self.index.whos(kind, relation), ""))
        entries = [entry for entry in entries if entry[1] == "same" or entry[2]]
        many = len(leaves)
        if shape == 0 or (shape[0] == "either" and list(shape[1:]) == list(range(many))):
            entries = [(0, *entry[1:]) for entry in entries]
            many = 1
            shape = None
        self.plans[(kind, relation)] = (entries, many, shape)
        return self.plans[(kind, relation)]

    def number_by(self, node, shape, found):
        """Return the number of a node by those of what its leaves read."""
        if shape is None:
            return self.sums.either(found[0])
        return self.sums.combine(node, shape, found)
