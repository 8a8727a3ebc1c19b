"""Who has which rights in a state, for all users at once."""

from relatedrights.masks import Masks

NOTHING = ()


class Holders(Masks):
    """The masks of nodes, and of all that they read, with a bit for each user.

    places: {user: the place of its bit}, for those whom rows of nodes or of what they read give a right
    outright; the user (kind, -1), whom no row can name, stands for all others of each bare kind. crowded:
    {node: its kinds of which rows tell all users}.
    """

    def __init__(self, tables, index, roots):
        Masks.__init__(self, tables, index)
        self.places = {(kind, -1): k for k, kind in enumerate(tables.bare_kinds())}
        self.crowded = {}
        for root in roots:
            self.visit(root)
        self.give_to_crowds()
        self.settle_all()

    def give(self, plan, thing):
        """Find the mask of those whom rows of a thing tell, by a direct plan."""
        node = (thing, plan[2])
        if node in self.given:
            return
        mask = 0
        first = []
        for subject in plan[1].get(thing, NOTHING):
            word, told = subject
            if word == "all":
                self.crowded.setdefault(node, []).append(told)
            elif told in self.places:
                mask |= 1 << self.places[told]
            else:
                first.append(told)
        # Those who are told for the first time get places side by side.
        old = len(self.places)
        self.places.update({user: old + k for k, user in enumerate(first)})
        self.given[node] = mask | (1 << len(self.places)) - (1 << old)

    def give_to_crowds(self):
        """Add all users of the kinds that rows tell as a whole to the masks of those rows."""
        crowds = {}
        if self.crowded:
            for user, place in self.places.items():
                crowds[user[0]] = crowds.get(user[0], 0) | 1 << place
        for node, kinds in self.crowded.items():
            for kind in kinds:
                self.given[node] |= crowds[kind]

    def has(self, node, user):
        """Return whether any user has a node."""
        place = self.places.get(user)
        if place is None:
            place = self.places[(user[0], -1)]
        return self.masks.get(node, 0) >> place & 1 == 1

    def holders_of(self, node):
        """Return the list of the named users that have a node, ascending, and the bare kinds of which all others do."""
        mask = self.masks.get(node, 0)
        digits = f"{mask:b}"[::-1]
        found = [user for user, digit in zip(self.places, digits) if digit == "1"]
        # The users that stand for whole kinds have the first places.
        kinds = [kind for k, kind in enumerate(self.tables.bare_kinds()) if mask >> k & 1]
        users = found[len(kinds):]
        if kinds:
            users.extend([user for user in self.index.users() if user[0] in kinds and user not in self.places])
        return sorted(users), kinds
