"""The errors of the package.

Their messages are fixed texts: values of any size and sort can be stored, but not always be written.
"""


class RightsError(ValueError):
    """All errors of this package."""


class InvalidSchema(RightsError):
    """What stands at this path is no schema, row, or relation with a rule."""

    def __init__(self, path):
        super().__init__("the schema is not as described")
        self.path = path


class CircularBut(RightsError):
    """This right depends on itself by way of the second part of a but."""

    def __init__(self, kind, relation):
        super().__init__("a right depends on what it takes away")
        self.kind = kind
        self.relation = relation


class InvalidState(RightsError):
    """The row with this index is none; -1 stands for the whole state."""

    def __init__(self, index):
        super().__init__("the state is not as described")
        self.index = index


class InvalidObject(RightsError):
    """The value is not a thing."""

    def __init__(self, value):
        super().__init__("the value is not a thing")
        self.value = value


class InvalidUser(RightsError):
    """The value is not a user."""

    def __init__(self, value):
        super().__init__("the value is not a user")
        self.value = value


class InvalidRelation(RightsError):
    """The value is not a right of the thing or of the kind."""

    def __init__(self, relation):
        super().__init__("the value is not a right")
        self.relation = relation


class InvalidKind(RightsError):
    """The value is not a kind, or not one of the wanted sort."""

    def __init__(self, kind):
        super().__init__("the value is not such a kind")
        self.kind = kind


class InvalidNumber(RightsError):
    """The argument with this name is not as described."""

    def __init__(self, name):
        super().__init__("an argument is not as described")
        self.name = name


class InvalidChange(RightsError):
    """The entry with this index is not as described; -1 stands for the whole."""

    def __init__(self, index):
        super().__init__("a change is not as described")
        self.index = index


class InvalidToken(RightsError):
    """The value is not the number of a snapshot."""

    def __init__(self, token):
        super().__init__("the value is not the number of a snapshot")
        self.token = token


class InvalidTree(RightsError):
    """What stands at this path is no tree."""

    def __init__(self, path):
        super().__init__("the tree is not as described")
        self.path = path


class InvalidRules(RightsError):
    """The rule with this index is none; -1 stands for the whole."""

    def __init__(self, index):
        super().__init__("the rules are not as described")
        self.index = index


class InvalidText(RightsError):
    """The row of the text with this number is not as told; -1 stands for no text."""

    def __init__(self, place):
        super().__init__("the text is not as described")
        self.place = place


class TooLarge(RightsError):
    """There is more than the limit."""

    def __init__(self, limit):
        super().__init__("there is more than the limit")
        self.limit = limit


class Mismatch(RightsError):
    """The argument with this name does not fit."""

    def __init__(self, name):
        super().__init__("an argument does not fit")
        self.name = name
