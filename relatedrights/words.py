"""Names, numbers and tuples: what every other file tests values with."""

LONGEST_NAME = 8


def is_name(value):
    """Return whether any object is a name."""
    if not isinstance(value, str) or not 1 <= len(value) <= LONGEST_NAME:
        return False
    return all(["a" <= sign <= "z" for sign in value])


def is_number(value):
    """Return whether any object is an integer >= 0."""
    return isinstance(value, int) and not isinstance(value, bool) and value >= 0


def is_tuple(value, least, most):
    """Return whether any object is a tuple of so many entries."""
    return isinstance(value, tuple) and least <= len(value) <= most
