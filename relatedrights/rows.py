"""Objects, rows and states: which values are such, and the rows of a state by what they tell."""

from relatedrights.errors import InvalidObject, InvalidState, InvalidUser
from relatedrights.rules import is_thing_kind, is_user_kind
from relatedrights.words import is_pair

MOST_ROWS = 2000


def is_thing(tables, value):
    """Return whether any object is a thing."""
    return is_pair(value) and is_thing_kind(tables.kinds, value[0])


def is_user(tables, value):
    """Return whether any object is a user."""
    return is_pair(value) and is_user_kind(tables.kinds, value[0])


def is_row(tables, value):
    """Return whether any object is a row."""
    return are_rows(tables, (value,))


def are_rows(tables, values):
    """Return whether each of some objects, which may be any, is a row."""
    forms = tables.forms
    # Rows that stand together are mostly alike, so what is as in the row ahead is not looked up again. No object in
    # a row is equal to these tables.
    last_kind = last_relation = far_kind = tables
    for row in values:
        if not isinstance(row, tuple) or len(row) != 3:
            return False
        thing, relation, subject = row
        if not isinstance(thing, tuple) or len(thing) != 2 or not isinstance(subject, tuple):
            return False
        kind, number = thing
        if type(number) is not int or number < 0:
            return False
        if relation != last_relation or kind != last_kind:
            if not isinstance(kind, str) or not isinstance(relation, str):
                return False
            try:
                ones, alls, rights = forms[kind][relation]
            except KeyError:
                return False
            last_kind, last_relation, far_kind = kind, relation, tables
        if len(subject) == 2:
            word, what = subject
            if isinstance(what, tuple):
                if word != "one" or len(what) != 2:
                    return False
                far, number = what
                if type(number) is not int or number < 0:
                    return False
                if far != far_kind:
                    if not isinstance(far, str) or far not in ones:
                        return False
                    far_kind = far
            elif word != "all" or not isinstance(what, str) or what not in alls:
                return False
        elif not tells_right(subject, rights):
            return False
    return True


def require_thing(tables, value):
    """Raise InvalidObject for any object that is not a thing."""
    if not is_thing(tables, value):
        raise InvalidObject(value)


def require_user(tables, value):
    """Raise InvalidUser for any object that is not a user."""
    if not is_user(tables, value):
        raise InvalidUser(value)


def index_of(tables, state):
    """Return the index of a state, or raise InvalidState."""
    if not isinstance(state, (list, tuple)) or len(state) > MOST_ROWS:
        raise InvalidState(-1)
    index = Index(tables)
    wrong = index.read(state)
    if wrong is not None:
        raise InvalidState(wrong)
    return index


def tells_right(subject, rights):
    """Return whether any tuple is a subject ("who", thing, relation) that tells one of these rights."""
    if len(subject) != 3 or subject[0] != "who" or not is_pair(subject[1]) or not isinstance(subject[2], str):
        return False
    return (subject[1][0], subject[2]) in rights


class Index:
    """The rows of a state by what they tell; there may be any number of them, and they may change.

    shelves is {kind: {relation: (ones, alls, rights, plain, whos)}}. The first three say of what kind the
    subjects of the relation are [Tables.forms]. plain and whos are {thing: {subject: True}}, the one for
    subjects that begin with "one" and "all", the other for "who"; they hold no thing without subjects.
    """

    def __init__(self, tables):
        self.tables = tables
        self.shelves = {
            kind: {name: (*three, {}, {}) for name, three in forms.items()} for kind, forms in tables.forms.items()
        }

    def read(self, rows):
        """Put in rows until the first of any objects that is no row; return its place, or None."""
        shelves = self.shelves
        # This is done with each row of each state; so what `is_pair` tests stands here twice, without calls.
        for k, row in enumerate(rows):
            if not isinstance(row, tuple) or len(row) != 3:
                return k
            thing, relation, subject = row
            if not isinstance(thing, tuple) or len(thing) != 2 or not isinstance(subject, tuple):
                return k
            kind, number = thing
            if not isinstance(kind, str) or type(number) is not int or number < 0 or not isinstance(relation, str):
                return k
            try:
                ones, alls, rights, shelf, whos = shelves[kind][relation]
            except KeyError:
                return k
            if len(subject) == 2:
                word, what = subject
                if isinstance(what, tuple):
                    if word != "one" or len(what) != 2:
                        return k
                    far, number = what
                    if not isinstance(far, str) or type(number) is not int or number < 0 or far not in ones:
                        return k
                elif word != "all" or not isinstance(what, str) or what not in alls:
                    return k
            elif tells_right(subject, rights):
                shelf = whos
            else:
                return k
            subjects = shelf.get(thing)
            if subjects is None:
                shelf[thing] = {subject: True}
            else:
                subjects[subject] = True
        return None

    def plain(self, kind, relation):
        """Return {thing: {subject: True}} for the subjects of a relation that begin with "one" and "all"."""
        return self.shelves[kind][relation][3]

    def whos(self, kind, relation):
        """Return {thing: {subject: True}} for the subjects of a right that begin with "who"."""
        return self.shelves[kind][relation][4]

    def shelf_of(self, row):
        """Return the part {thing: {subject: True}} of the index in which a row belongs."""
        return self.shelves[row[0][0]][row[1]][4 if row[2][0] == "who" else 3]

    def has(self, row):
        """Return whether a row is there."""
        subjects = self.shelf_of(row).get(row[0])
        return subjects is not None and row[2] in subjects

    def put(self, row, there=True):
        """Put a row in, if it is not there; all but masks [masks.py] ask for nothing but whether it is."""
        self.shelf_of(row).setdefault(row[0], {})[row[2]] = there

    def take(self, row):
        """Take a row out, if it is there."""
        shelf = self.shelf_of(row)
        subjects = shelf.get(row[0], {})
        if row[2] in subjects:
            del subjects[row[2]]
            if not subjects:
                del shelf[row[0]]

    def told_by(self, thing):
        """Return the things that rows of a thing tell."""
        found = []
        for relation, (_, _, _, plain, whos) in self.shelves[thing[0]].items():
            if thing in plain and relation in self.tables.links[thing[0]]:
                found.extend([subject[1] for subject in plain[thing]])
            if thing in whos:
                found.extend([subject[1] for subject in whos[thing]])
        return found

    def readers_of(self, things):
        """Return some things, and those whose rows tell one of them, directly or not, as a dict of True."""
        tellers = {}
        for kind in self.shelves:
            for relation, (_, _, _, plain, whos) in self.shelves[kind].items():
                for shelf in (plain, whos) if relation in self.tables.links[kind] else (whos,):
                    for thing, subjects in shelf.items():
                        for subject in subjects:
                            tellers.setdefault(subject[1], []).append(thing)
        found = {thing: True for thing in things}
        waiting = list(found)
        while waiting:
            for teller in tellers.get(waiting.pop(), ()):
                if teller not in found:
                    found[teller] = True
                    waiting.append(teller)
        return found

    def rows(self):
        """Return all rows, each once, ascending."""
        found = []
        for kind in self.shelves:
            for relation in self.shelves[kind]:
                for shelf in self.shelves[kind][relation][3:]:
                    for thing, subjects in shelf.items():
                        found.extend([(thing, relation, subject) for subject in subjects])
        return sorted(found)

    def things(self):
        """Return the things that rows name, ascending."""
        found = {}
        for kind in self.shelves:
            for relation, (_, _, _, plain, whos) in self.shelves[kind].items():
                # Only the subjects of links and those with "who" tell things.
                telling = plain if relation in self.tables.links[kind] else whos
                for thing in plain:
                    found[thing] = True
                for thing, subjects in telling.items():
                    found[thing] = True
                    for subject in subjects:
                        found[subject[1]] = True
        return sorted(list(found))

    def users(self):
        """Return the users that rows name, ascending."""
        found = {}
        for kind in self.shelves:
            for relation in self.tables.bits[kind]:
                for subjects in self.plain(kind, relation).values():
                    found.update({subject[1]: True for subject in subjects if subject[0] == "one"})
        return sorted(list(found))
