"""Rules as far as the rows of a state let them hold at all.

A PLAN is a rule without the parts that no row of the state can make hold, as a tuple:

- ("never",): nothing is left of it;
- ("direct", shelf, relation): a row of the thing gives the right outright; the shelf is that of Index.plain
  for the relation, which need not be the right that has this plan;
- ("who", shelf), ("through", shelf, relation), ("same", relation): another right is read, of things that the
  shelf tells or of the same thing;
- ("some", parts): an either of such parts alone; ("either", parts), ("both", parts), ("but", first, second).
"""

NEVER = ("never",)
UNKNOWN = ("unknown",)

# Plans that hold as soon as one right that they read does.
LOOSE = ("some", "who", "through", "same")


class Plans:
    """The plans of the rights of a schema in a state, each made when it is first asked for."""

    def __init__(self, tables, index):
        self.kinds = tables.kinds
        self.index = index
        self.made = {kind: {} for kind in tables.kinds}

    def plan(self, kind, relation):
        """Return the plan of a right, UNKNOWN while it is being made."""
        made = self.made[kind].get(relation)
        if made is None:
            self.made[kind][relation] = UNKNOWN
            made = self.cut(kind, relation, self.kinds[kind][relation])
            self.made[kind][relation] = made
        return made

    def cut(self, kind, relation, part):
        """Return the plan of a part of the rule of a right."""
        word = part[0]
        if word == "direct":
            return self.cut_direct(kind, relation)
        if word == "same":
            plan = self.plan(kind, part[1])
            # What is told by one look at the rows is not worth a right of its own.
            return plan if plan[0] == "direct" or plan[0] == "never" else part
        if word == "through":
            shelf = self.index.plain(kind, part[1])
            return ("through", shelf, part[2]) if shelf else NEVER
        if word == "but":
            return self.cut_but(kind, relation, part)
        plans = []
        for inner in part[1]:
            plan = self.cut(kind, relation, inner)
            if plan[0] == "never" and word == "both":
                return NEVER
            plans.append(plan)
        return ("both", plans) if word == "both" else joined(plans)

    def cut_direct(self, kind, relation):
        """Return the plan of the direct part of the rule of a right."""
        plans = []
        plain = self.index.plain(kind, relation)
        whos = self.index.whos(kind, relation)
        if plain:
            plans.append(("direct", plain, relation))
        if whos:
            plans.append(("who", whos))
        return joined(plans)

    def cut_but(self, kind, relation, part):
        """Return the plan of a but."""
        first = self.cut(kind, relation, part[1])
        if first[0] == "never":
            return NEVER
        second = self.cut(kind, relation, part[2])
        return first if second[0] == "never" else ("but", first, second)


def joined(plans):
    """Return the plan that holds if one of these does."""
    found = []
    word = "some"
    for plan in plans:
        if plan[0] == "some" or plan[0] == "either":
            found.extend(plan[1])
        elif plan[0] != "never":
            found.append(plan)
        if plan[0] == "either" or plan[0] == "both" or plan[0] == "but":
            word = "either"
    if len(found) > 1:
        return (word, found)
    return found[0] if found else NEVER
