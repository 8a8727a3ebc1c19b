"""Rules, rows and changes as rows of words, and such rows as what they tell."""

from relatedrights.words import is_name

SIGNS = {"|": "either", "&": "both", "-": "but"}


def rows_of_text(text):
    """Return the list of the rows of a text as tuples (row, whether it ends with a newline)."""
    parts = text.split("\n")
    found = [(part, True) for part in parts[:-1]]
    if parts[-1]:
        found.append((parts[-1], False))
    return found


def rule_text(rule):
    """Return the text of the rule of a relation."""
    word = rule[0]
    if word == "links":
        return " ".join(["->", *rule[1]])
    if word == "direct":
        return " ".join(["[", *[form_text(form) for form in rule[1]], "]"])
    if word == "same":
        return rule[1]
    if word == "through":
        return f"{rule[1]}.{rule[2]}"
    if word == "but":
        return f"{part_text(rule[1])} - {part_text(rule[2])}"
    parts = [part_text(part) for part in rule[1]]
    return " | ".join(parts) if word == "either" else " & ".join(parts)


def part_text(part):
    """Return the text of a part of a rule."""
    if part[0] == "either" or part[0] == "both" or part[0] == "but":
        return f"( {rule_text(part)} )"
    return rule_text(part)


def form_text(form):
    """Return the text of a form of a direct part."""
    if form[0] == "who":
        return f"{form[1]}#{form[2]}"
    return form[1] if form[0] == "one" else f"{form[1]}*"


def read_rule(words):
    """Return the rule that some words tell, None if they tell none."""
    if words[0] == "->":
        kinds = tuple(words[1:])
        return ("links", kinds) if all([is_name(kind) for kind in kinds]) else None
    return RuleReader().read(words)


class Bracket:
    """What stands in a bracket, or in a rule as a whole: parts, the sign between them, and whether one must follow."""

    def __init__(self):
        self.sign = ""
        self.parts = []
        self.waits = True

    def rule(self):
        """Return the rule that it tells."""
        if self.sign == "":
            return self.parts[0]
        if self.sign == "-":
            return ("but", self.parts[0], self.parts[1])
        return (SIGNS[self.sign], tuple(self.parts))


class RuleReader:
    """Reads the words of a rule that is not one of a link.

    around: the rule as a whole, and the brackets that are not closed yet; forms: those of the direct part that
    is not closed yet, otherwise None.
    """

    def __init__(self):
        self.around = [Bracket()]
        self.forms = None

    def read(self, words):
        """Return the rule that some words tell, None if they tell none."""
        for word in words:
            if not self.take(word):
                return None
        whole = self.around[0]
        if len(self.around) > 1 or self.forms is not None or whole.waits:
            return None
        # No brackets stand around a whole rule.
        return None if words[0] == "(" and whole.sign == "" else whole.rule()

    def take(self, word):
        """Take the next word; return whether it may stand there."""
        inner = self.around[-1]
        if self.forms is not None:
            return self.take_form(word)
        if inner.waits:
            return self.take_part(word)
        if word == ")":
            return self.close()
        if word not in SIGNS or inner.sign == "-" or (inner.sign != "" and inner.sign != word):
            return False
        inner.sign = word
        inner.waits = True
        return True

    def take_part(self, word):
        """Take a word with which a part begins."""
        if word == "(":
            self.around.append(Bracket())
        elif word == "[":
            self.forms = []
        else:
            left, dot, right = word.partition(".")
            if not is_name(left) or (dot and not is_name(right)):
                return False
            self.add_part(("through", left, right) if dot else ("same", word))
        return True

    def take_form(self, word):
        """Take a word that stands in a direct part."""
        if word == "]":
            self.add_part(("direct", tuple(self.forms)))
            self.forms = None
            return True
        form = read_form(word)
        if form is None:
            return False
        self.forms.append(form)
        return True

    def close(self):
        """Close the last bracket."""
        inner = self.around[-1]
        if len(self.around) == 1 or inner.sign == "":
            return False
        self.around.pop()
        self.add_part(inner.rule())
        return True

    def add_part(self, part):
        """Add a part to what is read."""
        self.around[-1].parts.append(part)
        self.around[-1].waits = False


def read_form(word):
    """Return the form of a direct part that a word tells, None if it tells none."""
    kind, sign, right = word.partition("#")
    if sign:
        return ("who", kind, right) if is_name(kind) and is_name(right) else None
    if word.endswith("*"):
        return ("all", word[:-1]) if is_name(word[:-1]) else None
    return ("one", word) if is_name(word) else None


def object_text(value):
    """Return the text of an object."""
    return f"{value[0]} {value[1]}"


def row_text(row):
    """Return the text of a row."""
    thing, relation, subject = row
    if subject[0] == "all":
        told = f"{subject[1]} *"
    elif subject[0] == "one":
        told = object_text(subject[1])
    else:
        told = f"{object_text(subject[1])} {subject[2]}"
    return f"{object_text(thing)} {relation} {told}"


def read_object(words):
    """Return the object that two words tell, None if they tell none; its kind may be any word."""
    kind, figures = words
    if not figures.isascii() or not figures.isdigit() or (figures[0] == "0" and figures != "0"):
        return None
    return (kind, int(figures))


def read_row(words):
    """Return the row that some words tell, None if they tell none; its names may be any words."""
    if len(words) != 5 and len(words) != 6:
        return None
    thing = read_object(words[:2])
    if len(words) == 5 and words[4] == "*":
        subject = ("all", words[3])
    else:
        other = read_object(words[3:5])
        if other is None:
            return None
        subject = ("one", other) if len(words) == 5 else ("who", other, words[5])
    return None if thing is None else (thing, words[2], subject)


def change_text(user, change):
    """Return the text of a change by a user, or by the keeper."""
    who = "-" if user is None else object_text(user)
    return f"{who} {change[0]} {row_text(change[1])}"


def read_change(words):
    """Return the tuple (user, change) that some words tell, None if they tell none; the names may be any words."""
    user = None
    left = words[1:]
    if words[0] != "-":
        if len(words) < 3:
            return None
        user = read_object(words[:2])
        left = words[2:]
        if user is None:
            return None
    if not left or (left[0] != "put" and left[0] != "take"):
        return None
    row = read_row(left[1:])
    return None if row is None else (user, (left[0], row))
