"""Parts of rules by their paths, and schemas with a part left out."""

from relatedrights.rules import leaves_of, parts_of


def paths_that_can_go(rule):
    """Return the list of the paths of the parts of a rule that can go, in reading order."""
    found = []
    waiting = [((), rule)]
    while waiting:
        path, part = waiting.pop()
        parts = parts_of(part)
        for k, inner in enumerate(parts):
            if (part[0] != "but" or k == 1) and not any([leaf[0] == "direct" for leaf in leaves_of(inner)]):
                found.append(path + (k,))
        waiting.extend([(path + (k,), inner) for k, inner in enumerate(parts)])
    # As tuples are compared, a part comes ahead of those in it, and these in their order.
    return sorted(found)


def rule_without(rule, path):
    """Return a rule without the part with a path."""
    parts = parts_of(rule)
    k = path[0]
    if len(path) > 1:
        left = (*parts[:k], rule_without(parts[k], path[1:]), *parts[k + 1:])
    else:
        left = (*parts[:k], *parts[k + 1:])
    if len(left) == 1:
        return left[0]
    return ("but", left[0], left[1]) if rule[0] == "but" else (rule[0], left)


def schema_without(schema, kind, relation, path):
    """Return a schema in which a part is left out of the rule of a right."""
    found = []
    for name, entries in schema:
        if name == kind:
            entries = tuple([(right, rule_without(rule, path)) if right == relation else (right, rule)
                             for right, rule in entries])
        found.append((name, entries))
    return tuple(found)
