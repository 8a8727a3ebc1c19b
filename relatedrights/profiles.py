"""What can hold in any state: the profiles that a user of a bare kind can have to a thing of a kind."""

from relatedrights.atoms import atoms_of, rights_by
from relatedrights.configurations import Configurations, numbers_in
from relatedrights.errors import InvalidKind, Mismatch, TooLarge
from relatedrights.examples import Example
from relatedrights.rules import is_thing_kind, is_user_kind
from relatedrights.tables import require_right, require_thing_kind, tables_of

MOST_CONFIGURATIONS = 256


def profiles(schema, bare, kind):
    """Return the list of all profiles that a user can have to a thing of a kind [9.1]."""
    tables = tables_of(schema)
    require_bare_kind(tables, bare)
    require_thing_kind(tables, kind)
    configurations = laid_out(tables, bare)
    return sorted(profiles_in(configurations, configurations.greatest(), kind), key=by_length)


def by_length(profile):
    """Return by what profiles are sorted."""
    return (len(profile), profile)


def profiles_in(configurations, live, kind):
    """Return the different profiles that configurations of a kind have, in any order."""
    return list({configurations.profile(0, kind, number): True for number in numbers_in(live[kind])})


def state_for(schema, bare, kind, profile):
    """Return a tuple (state, thing, user) in which the user has just this profile to the thing, or None [9.2]."""
    tables = tables_of(schema)
    require_bare_kind(tables, bare)
    require_thing_kind(tables, kind)
    require_rights(tables, kind, profile, "profile")
    lacking = [right for right in tables.bits[kind] if right not in profile]
    return example_of(laid_out(tables, bare), kind, profile, lacking)


def can(schema, bare, kind, having, lacking):
    """Return the same for a profile that has some rights and lacks some [9.2]."""
    tables = tables_of(schema)
    require_bare_kind(tables, bare)
    require_thing_kind(tables, kind)
    require_rights(tables, kind, having, "having")
    require_rights(tables, kind, lacking, "lacking")
    return example_of(laid_out(tables, bare), kind, having, lacking)


def example_of(configurations, kind, having, lacking):
    """Return a tuple (state, thing, user) in which the user has and lacks these rights to the thing, or None."""
    live = configurations.greatest()
    numbers = numbers_in(configurations.matching(live, kind, having, lacking))
    if not numbers:
        return None
    example = Example(configurations, live)
    example.show((kind, numbers[0]))
    return (list(example.made), (kind, numbers[0]), example.user)


def always(schema, bare, kind, given, wanted):
    """Return whether in each state who has a right to a thing has another one to it, too [9.3]."""
    tables = tables_of(schema)
    require_bare_kind(tables, bare)
    require_thing_kind(tables, kind)
    require_right(tables, kind, given)
    require_right(tables, kind, wanted)
    configurations = laid_out(tables, bare)
    return configurations.matching(configurations.greatest(), kind, [given], [wanted]) == 0


def never(schema, bare):
    """Return the rights (kind, right) that no user of a bare kind has in any state [9.3]."""
    tables = tables_of(schema)
    require_bare_kind(tables, bare)
    configurations = laid_out(tables, bare)
    live = configurations.greatest()
    return [(kind, right) for kind, right in tables.rights() if not configurations.matching(live, kind, [right], [])]


def soundest(schema, bare):
    """Return the greatest sound list, ascending [9.4]."""
    tables = tables_of(schema)
    require_bare_kind(tables, bare)
    configurations = laid_out(tables, bare)
    live = configurations.greatest()
    places = [(kind, number) for kind, mask in live.items() for number in numbers_in(mask)]
    return sorted([(kind, configurations.atoms_told(kind, number)) for kind, number in places])


def is_sound(schema, bare, value):
    """Return whether any object is a sound list or tuple [9.4]."""
    tables = tables_of(schema)
    require_bare_kind(tables, bare)
    configurations = laid_out(tables, bare)
    if not isinstance(value, (list, tuple)):
        return False
    live = {kind: 0 for kind in configurations.kinds}
    for entry in value:
        number = number_of(tables, bare, entry)
        if number is None or live[entry[0]] >> number & 1:
            return False
        live[entry[0]] |= 1 << number
    return configurations.standing(live) == live


def profile_of(schema, bare, configuration):
    """Return the profile of a configuration [9.4]."""
    tables = tables_of(schema)
    require_bare_kind(tables, bare)
    if number_of(tables, bare, configuration) is None:
        raise Mismatch("configuration")
    kind, atoms = configuration
    rights = rights_by(tables, kind, {atom: 1 for atom in atoms})
    return tuple([right for right, having in rights.items() if having])


def number_of(tables, bare, value):
    """Return the number of a configuration; None for any object that is none."""
    if not isinstance(value, tuple) or len(value) != 2 or not is_thing_kind(tables.kinds, value[0]):
        return None
    if not isinstance(value[1], tuple):
        return None
    atoms = atoms_of(tables, bare, value[0])
    number = 0
    for atom in value[1]:
        if not is_words(atom) or atom not in atoms or number >> atoms.index(atom):
            return None
        number |= 1 << atoms.index(atom)
    return number


def is_words(value):
    """Return whether any object is a tuple of strings."""
    return isinstance(value, tuple) and all([isinstance(word, str) for word in value])


def require_bare_kind(tables, bare):
    """Raise InvalidKind for any object that is not a bare kind."""
    if not is_user_kind(tables.kinds, bare):
        raise InvalidKind(bare)


def require_rights(tables, kind, value, name):
    """Raise Mismatch for any object that is not a list or tuple of different rights of a kind."""
    if not isinstance(value, (list, tuple)):
        raise Mismatch(name)
    for right in value:
        if not isinstance(right, str) or right not in tables.bits[kind]:
            raise Mismatch(name)
    if len(set(value)) < len(value):
        raise Mismatch(name)


def laid_out(tables, bare):
    """Return all configurations, or raise TooLarge."""
    configurations = Configurations([tables], bare)
    if configurations.number() > MOST_CONFIGURATIONS:
        raise TooLarge(MOST_CONFIGURATIONS)
    configurations.lay_out()
    return configurations
