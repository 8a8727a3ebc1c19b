"""States that show sound lists of configurations: a thing for each one, with its number."""


class Example:
    """The rows that give some configurations, as things, what they need; a PLACE is a tuple (kind, number).

    grounds: what was grounded behind each round [configurations.py], so that rows lead to what is grounded
    as early as can be; made: the rows, as a dict of True; done: the places that are seen to, as a dict of True.
    """

    def __init__(self, configurations, live):
        self.configurations = configurations
        self.live = live
        self.grounds = configurations.grounding(live)
        self.user = (configurations.bare, 0)
        self.made = {}
        self.done = {}

    def show(self, place):
        """Add the rows of a configuration, and of all those that it leads to."""
        waiting = [place]
        while waiting:
            place = waiting.pop()
            if place not in self.done:
                self.done[place] = True
                for support in self.configurations.supports[place[0]]:
                    if support.within >> place[1] & 1:
                        waiting.extend(self.give(place, support))

    def give(self, place, support):
        """Add the row that an atom needs; return the list of the configurations that it leads to."""
        relation = support.atom[1]
        if support.alone:
            ones, _, _ = self.configurations.sides[0].forms[place[0]][relation]
            kind = self.user[0]
            self.made[(place, relation, ("one", self.user) if kind in ones else ("all", kind))] = True
            return []
        kind, right, number = self.earliest(support)
        subject = ("who", (kind, number), right) if support.atom[0] == "direct" else ("one", (kind, number))
        self.made[(place, relation, subject)] = True
        return [(kind, number)]

    def earliest(self, support):
        """Return (kind, right, number) of the friend for whom the right is grounded first."""
        for ground in self.grounds:
            friend = self.configurations.first_friend(support, self.live, ground)
            if friend is not None:
                return friend
        return None
