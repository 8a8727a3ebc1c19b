"""Texts of schemas, rows and changes, and what they tell."""

from relatedrights.errors import InvalidText, Mismatch
from relatedrights.live import Live
from relatedrights.rows import index_of, is_row, is_user
from relatedrights.tables import tables_of
from relatedrights.wordings import (
    change_text, read_change, read_row, read_rule, row_text, rows_of_text, rule_text,
)
from relatedrights.words import is_name


def schema_text(schema):
    """Return the text of a schema [13.1]."""
    tables_of(schema)
    rows = []
    for kind, relations in schema:
        rows.append(f"{kind}:\n")
        rows.extend([f"{relation} = {rule_text(rule)}\n" for relation, rule in relations])
    return "".join(rows)


def read_schema(text):
    """Return the schema of a text [13.1]."""
    require_text(text)
    found = []
    for k, (row, ended) in enumerate(rows_of_text(text)):
        words = row.split(" ")
        rule = read_rule(words[2:]) if len(words) > 2 and is_name(words[0]) and words[1] == "=" else None
        if ended and row.endswith(":") and is_name(row[:-1]):
            found.append((row[:-1], []))
        elif ended and found and rule is not None:
            found[-1][1].append((words[0], rule))
        else:
            raise InvalidText(k)
    schema = tuple([(kind, tuple(relations)) for kind, relations in found])
    tables_of(schema)
    return schema


def rows_text(schema, state):
    """Return the text of the rows of a state [13.2]."""
    index_of(tables_of(schema), state)
    return "".join([f"{row_text(row)}\n" for row in state])


def read_rows(schema, text):
    """Return the rows of a text [13.2]."""
    tables = tables_of(schema)
    require_text(text)
    found = []
    for k, (line, ended) in enumerate(rows_of_text(text)):
        row = read_row(line.split(" "))
        if not ended or row is None or not is_row(tables, row):
            raise InvalidText(k)
        found.append(row)
    return found


def journal_text(live):
    """Return the text of the changes of a store [13.4]."""
    if not isinstance(live, Live) or live.oldest() != 0:
        raise Mismatch("live")
    return "".join([f"{change_text(user, change)}\n" for _, user, change in live.since(0)])


def read_journal(schema, rules, text):
    """Return the store in which all changes of a text were done [13.4]."""
    live = Live(schema, rules)
    require_text(text)
    tables = tables_of(schema)
    for k, (line, ended) in enumerate(rows_of_text(text)):
        told = read_change(line.split(" "))
        if not ended or told is None or not is_row(tables, told[1][1]):
            raise InvalidText(k)
        if (told[0] is not None and not is_user(tables, told[0])) or not live.do(told[0], told[1]):
            raise InvalidText(k)
    return live


def require_text(text):
    """Raise InvalidText for any object that is not a string."""
    if not isinstance(text, str):
        raise InvalidText(-1)
