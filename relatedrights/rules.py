"""The rules of relations: which values are rules, and what a rule is made up of.

`kinds` is {kind: {relation: rule}} in the order of the schema. Until all rules are known to be
right, a relation counts as a link by the first word of its rule alone, as a right otherwise.
"""

from relatedrights.words import is_name, is_tuple

MOST_LINK_KINDS = 4
MOST_FORMS = 4
MOST_PARTS = 4
DEEPEST_RULE = 6


def is_link_like(rule):
    """Return whether a relation with this rule, which may be any object, counts as a link."""
    return isinstance(rule, tuple) and len(rule) > 0 and isinstance(rule[0], str) and rule[0] == "links"


def is_user_kind(kinds, value):
    """Return whether any object is a bare kind."""
    return isinstance(value, str) and value in kinds and len(kinds[value]) == 0


def is_thing_kind(kinds, value):
    """Return whether any object is a kind that is not bare."""
    return isinstance(value, str) and value in kinds and len(kinds[value]) > 0


def is_relation(kinds, kind, value):
    """Return whether any two objects are a kind and a relation of it."""
    return is_thing_kind(kinds, kind) and isinstance(value, str) and value in kinds[kind]


def is_right(kinds, kind, value):
    """Return whether any two objects are a kind and a right of it."""
    return is_relation(kinds, kind, value) and not is_link_like(kinds[kind][value])


def is_link(kinds, kind, value):
    """Return whether any two objects are a kind and a link of it."""
    return is_relation(kinds, kind, value) and is_link_like(kinds[kind][value])


def is_rule(kinds, kind, rule):
    """Return whether any object is the rule of a relation of this kind."""
    if is_link_like(rule):
        return is_link_rule(kinds, rule)
    return is_right_rule(kinds, kind, rule)


def is_link_rule(kinds, rule):
    """Return whether a tuple that begins with "links" is the rule of a link."""
    if len(rule) != 2 or not is_tuple(rule[1], 1, MOST_LINK_KINDS):
        return False
    if not all([is_thing_kind(kinds, kind) for kind in rule[1]]):
        return False
    return len(set(rule[1])) == len(rule[1])


def is_right_rule(kinds, kind, rule):
    """Return whether any object is the rule of a right of this kind."""
    directs = 0
    row = [rule]
    # Row by row, not by recursion: a wrong rule may be nested without bound.
    for _ in range(DEEPEST_RULE):
        below = []
        for part in row:
            if not is_part(kinds, kind, part):
                return False
            if part[0] == "direct":
                directs += 1
            below.extend(parts_of(part))
        row = below
    return directs <= 1 and not row


def is_part(kinds, kind, part):
    """Return whether any object is a part of a rule, whatever the parts in it are."""
    if not is_tuple(part, 2, 3) or not isinstance(part[0], str):
        return False
    word = part[0]
    if word == "through":
        return len(part) == 3 and is_through(kinds, kind, part[1], part[2])
    if word == "but":
        return len(part) == 3
    if len(part) != 2:
        return False
    if word == "direct":
        return are_forms(kinds, part[1])
    if word == "same":
        return is_right(kinds, kind, part[1])
    return word in ("either", "both") and is_tuple(part[1], 2, MOST_PARTS)


def is_through(kinds, kind, link, relation):
    """Return whether two objects are a link of the kind and a right of all that it leads to."""
    if not is_name(relation) or not is_link(kinds, kind, link):
        return False
    return all([is_right(kinds, far, relation) for far in kinds_told(kinds[kind][link])])


def kinds_told(rule):
    """Return the kinds of a link; none where its rule tells none, which is that rule's fault alone."""
    if len(rule) != 2 or not isinstance(rule[1], tuple):
        return ()
    return rule[1]


def are_forms(kinds, forms):
    """Return whether any object is what a direct part may have."""
    if not is_tuple(forms, 1, MOST_FORMS):
        return False
    if not all([is_form(kinds, form) for form in forms]):
        return False
    return len(set(forms)) == len(forms)


def is_form(kinds, form):
    """Return whether any object is a form."""
    if not is_tuple(form, 2, 3) or not isinstance(form[0], str):
        return False
    if form[0] == "who":
        return len(form) == 3 and is_right(kinds, form[1], form[2])
    return form[0] in ("one", "all") and len(form) == 2 and is_user_kind(kinds, form[1])


def parts_of(part):
    """Return the parts that stand directly in a part of a rule."""
    if part[0] in ("either", "both"):
        return part[1]
    if part[0] == "but":
        return part[1:]
    return ()


def leaves_of(rule):
    """Return the parts of a rule that have no parts, in reading order.

    They come as tuples (leaf, taken): taken tells whether it stands in the second part of a but.
    """
    found = []
    waiting = [(rule, False)]
    while waiting:
        part, taken = waiting.pop()
        parts = parts_of(part)
        if part[0] == "but":
            waiting.append((parts[1], True))
            waiting.append((parts[0], taken))
        elif parts:
            waiting.extend([(inner, taken) for inner in reversed(parts)])
        else:
            found.append((part, taken))
    return found


def rights_named(kinds, kind, leaf):
    """Return the rights that a leaf of a rule of this kind names, as tuples (kind, relation)."""
    if leaf[0] == "direct":
        return [(form[1], form[2]) for form in leaf[1] if form[0] == "who"]
    if leaf[0] == "same":
        return [(kind, leaf[1])]
    return [(far, leaf[2]) for far in kinds[kind][leaf[1]][1]]


def shape_of(rule, places):
    """Return a rule as nested tuples (word, part, part ..) with the numbers of its leaves, by {leaf: number}."""
    parts = parts_of(rule)
    if not parts:
        return places[rule]
    return (rule[0], *[shape_of(part, places) for part in parts])
