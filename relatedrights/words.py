"""Names, numbers and tuples: what every other file tests values with."""

LONGEST_NAME = 8


def is_name(value):
    """Return whether any object is a name."""
    if not isinstance(value, str) or len(value) > LONGEST_NAME:
        return False
    return value.isascii() and value.isalpha() and value.islower()


def is_number(value):
    """Return whether any object is an integer >= 0."""
    return type(value) is int and value >= 0


def is_tuple(value, least, most):
    """Return whether any object is a tuple of so many entries."""
    return isinstance(value, tuple) and least <= len(value) <= most


def is_pair(value):
    """Return whether any object is a tuple of a string and an integer >= 0."""
    if not isinstance(value, tuple) or len(value) != 2:
        return False
    return isinstance(value[0], str) and type(value[1]) is int and value[1] >= 0
