"""The rules of relations: which values are rules, and what a rule is made up of.

`kinds` is {kind: {relation: rule}} in the order of the schema. Until all rules are known to be
right, a relation counts as a link by the first word of its rule alone, as a right otherwise.
A set of rights is a number here, with a bit for each of them.
"""

from relatedrights.words import is_name, is_tuple

MOST_LINK_KINDS = 4
MOST_FORMS = 4
MOST_PARTS = 4
DEEPEST_RULE = 6

# Joined with any set of rights by `|` it stays itself, so one wrong part makes the whole rule wrong.
WRONG = -1


def is_link_like(rule):
    """Return whether a relation with this rule, which may be any object, counts as a link."""
    return isinstance(rule, tuple) and len(rule) > 0 and isinstance(rule[0], str) and rule[0] == "links"


def is_user_kind(kinds, value):
    """Return whether any object is a bare kind."""
    return isinstance(value, str) and value in kinds and len(kinds[value]) == 0


def is_thing_kind(kinds, value):
    """Return whether any object is a kind that is not bare."""
    return isinstance(value, str) and value in kinds and len(kinds[value]) > 0


def is_link_rule(kinds, rule):
    """Return whether a tuple that begins with "links" is the rule of a link."""
    if len(rule) != 2 or not is_tuple(rule[1], 1, MOST_LINK_KINDS):
        return False
    for kind in rule[1]:
        if not is_thing_kind(kinds, kind):
            return False
    return len(set(rule[1])) == len(rule[1])


def kinds_told(rule):
    """Return the kinds of a link; none where its rule tells none, which is that rule's fault alone."""
    if len(rule) != 2 or not isinstance(rule[1], tuple):
        return ()
    return rule[1]


class Reader:
    """Reads the rules of rights, and finds what is wrong with them.

    bits: {kind: {right: the set of this right alone}}; links: {kind: {link: the kinds that it tells}}.
    Of the rule that was read last: forms, a tuple of the bare kinds that its direct part tells by "one", of
    those by "all", and of the rights by "who", each a dict of True; taken, the set of the rights that it
    names in the second parts of buts.
    """

    def __init__(self, kinds, bits, links):
        self.kinds = kinds
        self.bits = bits
        self.links = links
        self.own_bits = {}
        self.own_links = {}
        self.forms = None
        self.taken = 0

    def read_rule(self, kind, rule):
        """Return the set of the rights that any object names as the rule of a right of a kind, or WRONG."""
        self.own_bits = self.bits[kind]
        self.own_links = self.links[kind]
        self.forms = None
        self.taken = 0
        return self.read_part(rule, DEEPEST_RULE)

    def read_part(self, part, levels):
        """Return the same for a part that may be so deep."""
        if not isinstance(part, tuple):
            return WRONG
        if len(part) == 3:
            word, first, second = part
            if word == "through":
                return self.read_through(first, second)
            if word != "but" or levels == 1:
                return WRONG
            taken = self.read_part(second, levels - 1)
            self.taken |= taken
            return taken | self.read_part(first, levels - 1)
        if len(part) != 2:
            return WRONG
        word, inner = part
        if word == "same":
            return self.own_bits.get(inner, WRONG) if isinstance(inner, str) else WRONG
        if word == "direct":
            return self.read_forms(inner)
        if (word != "either" and word != "both") or levels == 1 or not is_tuple(inner, 2, MOST_PARTS):
            return WRONG
        named = 0
        for one in inner:
            named |= self.read_part(one, levels - 1)
        return named

    def read_through(self, link, relation):
        """Return the set of the rights that a through part names, or WRONG."""
        if not isinstance(link, str) or link not in self.own_links or not isinstance(relation, str):
            return WRONG
        far_kinds = self.own_links[link]
        named = 0
        for far in far_kinds:
            if not isinstance(far, str) or far not in self.bits:
                return WRONG
            named |= self.bits[far].get(relation, WRONG)
        return named if far_kinds or is_name(relation) else WRONG

    def read_forms(self, forms):
        """Return the set of the rights that the forms of the only direct part name, or WRONG."""
        if self.forms is not None or not is_tuple(forms, 1, MOST_FORMS):
            return WRONG
        named = 0
        self.forms = ({}, {}, {})
        ones, alls, rights = self.forms
        for form in forms:
            if not isinstance(form, tuple) or not 2 <= len(form) <= 3:
                return WRONG
            word = form[0]
            kind = form[1]
            if not isinstance(kind, str) or kind not in self.kinds:
                return WRONG
            if len(form) == 3:
                if word != "who" or not isinstance(form[2], str):
                    return WRONG
                named |= self.bits[kind].get(form[2], WRONG)
                rights[form[1:]] = True
            elif self.kinds[kind]:
                return WRONG
            elif word == "one":
                ones[kind] = True
            elif word == "all":
                alls[kind] = True
            else:
                return WRONG
        return named if len(ones) + len(alls) + len(rights) == len(forms) else WRONG


def parts_of(part):
    """Return the parts that stand directly in a part of a rule."""
    if part[0] == "either" or part[0] == "both":
        return part[1]
    if part[0] == "but":
        return part[1:]
    return ()


def leaves_of(rule):
    """Return the parts of a rule that have no parts, in reading order."""
    found = []
    waiting = [rule]
    while waiting:
        part = waiting.pop()
        parts = parts_of(part)
        if parts:
            waiting.extend(parts[::-1])
        else:
            found.append(part)
    return found


def has_but(rule):
    """Return whether a but stands in a rule."""
    return rule[0] == "but" or any([has_but(part) for part in parts_of(rule)])


def shape_of(rule, places):
    """Return a rule as nested tuples (word, part, part ..) with the numbers of its leaves, by {leaf: number}."""
    parts = parts_of(rule)
    if not parts:
        return places[rule]
    return (rule[0], *[shape_of(part, places) for part in parts])
