"""Atoms: what can hold of a thing for a user of a bare kind, and the rights that come of it by the rules of its kind.

Sets of configurations of one kind are masks, with a bit for each of them.
"""

from relatedrights.rules import leaves_of


def atoms_of(tables, bare, kind):
    """Return the atoms of a kind, in their order."""
    direct = []
    through = {}
    for right in tables.bits[kind]:
        ones, alls, rights = tables.forms[kind][right]
        if bare in ones or bare in alls or rights:
            direct.append(("direct", right))
        for leaf in leaves_of(tables.kinds[kind][right]):
            if leaf[0] == "through":
                through[leaf] = True
    return direct + sorted(list(through))


def atom_of(right, leaf):
    """Return the atom by which a leaf of the rule of a right holds, if there is such an atom."""
    return ("direct", right) if leaf[0] == "direct" else leaf


def rights_by(tables, kind, held):
    """Return {right: the mask of those that have it}; held: {atom: the mask of those in which it holds}."""
    found = {right: 0 for right in tables.bits[kind]}
    layers = {}
    for right in found:
        layers.setdefault(tables.level(kind, right), []).append(right)
    for level in sorted(list(layers)):
        growing = True
        while growing:
            growing = False
            for right in layers[level]:
                mask = mask_of(tables, kind, right, held, found)
                growing = growing or mask != found[right]
                found[right] = mask
    return found


def mask_of(tables, kind, right, held, known):
    """Return the mask that the rule of a right gives by those of atoms and of the rights of the kind."""
    leaves, shape = tables.leaves_by(kind, right)
    return mask_by_shape(shape, leaf_masks(right, leaves, held, known))


def leaf_masks(right, leaves, held, known):
    """Return the masks of the leaves of the rule of a right."""
    return [known[leaf[1]] if leaf[0] == "same" else held.get(atom_of(right, leaf), 0) for leaf in leaves]


def mask_by_shape(shape, masks):
    """Return the mask that a shape [rules.shape_of] gives by those of its leaves."""
    if isinstance(shape, int):
        return masks[shape]
    found = [mask_by_shape(part, masks) for part in shape[1:]]
    mask = found[0]
    for more in found[1:]:
        if shape[0] == "either":
            mask |= more
        elif shape[0] == "both":
            mask &= more
        else:
            mask &= ~more
    return mask


def ground_by_shape(shape, grounds, masks):
    """Return the mask of those in which a shape is grounded, by where its leaves are, and where they hold."""
    if isinstance(shape, int):
        return grounds[shape]
    mask = ground_by_shape(shape[1], grounds, masks)
    for part in shape[2:]:
        if shape[0] == "either":
            mask |= ground_by_shape(part, grounds, masks)
        elif shape[0] == "both":
            mask &= ground_by_shape(part, grounds, masks)
        else:
            mask &= ~mask_by_shape(part, masks)
    return mask
