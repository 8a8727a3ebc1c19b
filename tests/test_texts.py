"""[13.1] schema_text, read_schema, [13.2] rows_text, read_rows, [13.4] journal_text, read_journal."""

import random
import unittest

from relatedrights.errors import InvalidSchema
from relatedrights.live import Live
from relatedrights.texts import journal_text, read_journal, read_rows, read_schema, rows_text, schema_text
from tests.made import lively_schema, lively_state, some_rules, some_schema, some_state
from tests.samples import ANY, SCHEMA, STATE, odd_values, told

RULES = [("doc", "own", "own", "own"), ("folder", "up", "see", None)]
ANN = ("user", 1)
THOUSAND = int("7" * 1000)


def spoilt_texts(chance, text, many):
    """Texts that differ in one place, or a few."""
    signs = [" ", "  ", "\n", "\t", "\r", "0", "1", "a", "z", "A", ":", "=", "(", ")", "[", "]", "|", "&", "-", "->", "*", "#",
             ".", "_", "-1", "+1", "", ","]
    for _ in range(many):
        at, other = chance.randrange(len(text) + 1), chance.randrange(len(text) + 1)
        yield text[:at] + chance.choice(signs) + text[at + chance.choice([0, 0, 1, 2]):]
        yield text[:min(at, other)] + text[max(at, other):]
        lines = text.split("\n")
        words = lines[at % len(lines)].split(" ")
        chance.shuffle(words)
        lines[at % len(lines)] = " ".join(words)
        yield "\n".join(lines)


class SchemaTextTest(unittest.TestCase):
    def test_the_example_of_the_document(self):
        schema = (("user", ()), ("doc", (("up", ("links", ("doc",))), ("see", ("but", ("either", (("direct", (
            ("one", "user"), ("all", "user"))), ("through", "up", "see"))), ("same", "ban"))), ("ban", ("direct", (
                ("one", "user"),))))))
        text = "user:\ndoc:\nup = -> doc\nsee = ( [ user user* ] | up.see ) - ban\nban = [ user ]\n"
        self.assertEqual(schema_text(schema), text)
        self.assertEqual(read_schema(text), schema)

    def test_each_form_of_a_rule(self):
        text = ("user:\nbot:\nteam:\nmember = [ user bot* team#member ]\nboss = member\ndoc:\nup = -> doc team\nin = -> team\n"
                "see = up.member | in.boss | own\nown = [ team#boss ]\nmember = see & own\n"
                "boss = ( own & up.boss & see & own ) - ( see - ( own | in.boss | in.member ) )\n")
        rules = dict(read_schema(text)[3][1])
        self.assertEqual(read_schema(text)[2][1], (("member", ("direct", (("one", "user"), ("all", "bot"), ("who", "team", "member")))),
                                                   ("boss", ("same", "member"))))
        self.assertEqual(rules["up"], ("links", ("doc", "team")))
        self.assertEqual(rules["see"], ("either", (("through", "up", "member"), ("through", "in", "boss"), ("same", "own"))))
        self.assertEqual(rules["member"], ("both", (("same", "see"), ("same", "own"))))
        own, see = ("same", "own"), ("same", "see")
        self.assertEqual(rules["boss"], ("but", ("both", (own, ("through", "up", "boss"), see, own)), (
            "but", see, ("either", (own, ("through", "in", "boss"), ("through", "in", "member"))))))
        self.assertEqual(schema_text(read_schema(text)), text)

    def test_what_is_no_string(self):
        for odd in odd_values() + [b"user:\n"]:
            if not isinstance(odd, str):
                self.assertEqual(told(read_schema, odd), ("InvalidText", -1))
                self.assertEqual(told(read_rows, SCHEMA, odd), ("InvalidText", -1))
                self.assertEqual(told(read_journal, SCHEMA, RULES, odd), ("InvalidText", -1))

    def test_the_first_bad_row(self):
        for text, place in (
                ("\n", 0), ("user", 0), ("user:", 0), ("see = own\n", 0), ("user:\n\n", 1), ("user:\ndoc:\nsee = own", 2),
                (" user:\n", 0), ("user: \n", 0), ("user :\n", 0), ("User:\n", 0), ("us3r:\n", 0), ("toolonger:\n", 0), (":\n", 0),
                ("user:\r\n", 0), ("user:\ndoc:\nsee  = own\n", 2), ("user:\ndoc:\nsee = own \n", 2), ("user:\ndoc:\n see = own\n", 2),
                ("user:\ndoc:\nsee =\n", 2), ("user:\ndoc:\nsee = \n", 2), ("user:\ndoc:\nsee\n", 2), ("user:\ndoc:\n= own\n", 2),
                ("user:\ndoc:\nsee = own\n\n", 3), ("user:\ndoc:\nsee = own\nuser", 3), ("user:\ndoc:\nsee =own\n", 2),
                ("user:\ndoc:\nsee = own\tban\n", 2), ("user:\n!\ndoc\n?\n", 1), ("user:\ndoc:\ntoolonger = own\n", 2), ("user:\n\tdoc:\n", 1)):
            self.assertEqual(told(read_schema, text), ("InvalidText", place), text)

    def test_what_is_no_rule(self):
        for rule in ("( own )", "( own | ban )", "own |", "| own", "own | | ban", "own ban", "own | ban & see", "own - ban - see",
                     "own | ban - see", "( own | ban ) | ( see )", "own | ( see )", "own | ( ( ban | see ) )", "( own | ban", "own | ban )",
                     "[ user", "user ]", "[ user ] ]", "[ [ user ] ]", "[ user | bot ]", "[ ( user ) ]", "[user]", "[ user # see ]",
                     "[ user* * ]", "[ *user ]", "[ user** ]", "[ #see ]", "[ user# ]", "[ user#see#see ]", "[ user.see ]", "[ user#see* ]",
                     "up.", ".see", "up.see.see", "up. see", ".", "up..see", "user*", "user#see", "->doc", "-> doc | doc", "-> ( doc )",
                     "-> [ doc ]", "-> doc.see", "-> doc*", "own -> doc", "own - -> doc", "- own", "( - own )", "()", "( )", "[", "]", "(", ")",
                     "-", "|", "&", "own & ( ban )", "( own - ban )", "own & ( -> doc )", "Own", "own | Ban", "toolonger", "own|ban", "own-ban"):
            self.assertEqual(told(read_schema, f"user:\ndoc:\nown = [ user ]\nsee = {rule}\n"), ("InvalidText", 3), rule)

    def test_what_is_a_matter_of_schemas(self):
        for text, error in (
                ("", ("InvalidSchema", ())), ("user:\nuser:\n", ("InvalidSchema", (1,))), ("a:\nb:\nc:\nd:\ne:\nf:\ng:\n", ("InvalidSchema", ())),
                ("user:\ndoc:\nup = ->\n", ("InvalidSchema", (1, 0))), ("user:\ndoc:\nsee = [ ]\n", ("InvalidSchema", (1, 0))),
                ("user:\ndoc:\nsee = [ user user ]\n", ("InvalidSchema", (1, 0))), ("user:\ndoc:\nsee = own\n", ("InvalidSchema", (1, 0))),
                ("user:\ndoc:\nsee = [ user ]\nsee = see\n", ("InvalidSchema", (1, 1))), ("user:\ndoc:\nup = -> user\n", ("InvalidSchema", (1, 0))),
                ("user:\ndoc:\nsee = see | see | see | see | see\n", ("InvalidSchema", (1, 0))),
                ("user:\ndoc:\nsee = [ user ] | [ user ]\n", ("InvalidSchema", (1, 0))), ("user:\ndoc:\nsee = up.see\n", ("InvalidSchema", (1, 0))),
                ("user:\ndoc:\nsee = see - see\n", ("CircularBut", "doc", "see")), ("doc:\nup = -> doc doc\n", ("InvalidSchema", (0, 0))),
                ("user:\ndoc:\nsee = see | ( see & ( see | ( see & ( see | ( see & see ) ) ) ) )\n", ("InvalidSchema", (1, 0)))):
            self.assertEqual(told(read_schema, text), error, text)
        self.assertEqual(told(read_schema, "user:\ndoc:\nsee = see | ( see & ( see | ( see & ( see | see ) ) ) )\n")[0], "fine")

    def test_brackets_100_levels_deep(self):
        rule = "see | see"
        for k in range(100):
            rule = f"( {rule} ) {'&|-'[k % 3]} see"
        self.assertEqual(told(read_schema, f"user:\ndoc:\nsee = {rule}\n"), ("InvalidSchema", (1, 0)))
        self.assertEqual(told(read_schema, f"user:\ndoc:\nsee = {rule} )\n"), ("InvalidText", 2))
        right = "see & see"
        for k in range(100):
            right = f"see {'&|-'[k % 3]} ( {right} )"
        self.assertEqual(told(read_schema, f"user:\ndoc:\nsee = {right}\n"), ("InvalidSchema", (1, 0)))
        self.assertEqual(told(read_schema, f"user:\ndoc:\nsee = ( {right}\n"), ("InvalidText", 2))

    def test_there_and_back_and_no_other_text(self):
        chance = random.Random(131)
        read = 0
        for k in range(150):
            schema = some_schema(chance) if k % 2 else lively_schema(chance)
            text = schema_text(schema)
            self.assertEqual(read_schema(text), schema)
            for other in spoilt_texts(chance, text, 15):
                try:
                    found = read_schema(other)
                except ValueError:
                    continue
                # What is read as a schema is the text of this schema, and no other.
                self.assertEqual(schema_text(found), other)
                self.assertIs(found == schema, other == text)
                read += 1
        self.assertGreater(read, 100)

    def test_errors_of_the_schema(self):
        self.assertEqual(told(schema_text, ((5,),)), ("InvalidSchema", (0,)))
        with self.assertRaises(InvalidSchema):
            schema_text([])


class RowsTextTest(unittest.TestCase):
    def test_each_form_of_a_row(self):
        text = ("group 1 member user 1\ngroup 1 member group 2 member\ngroup 2 member user 2\nfolder 1 own user 3\n"
                "folder 2 up folder 1\nfolder 2 see group 1 member\ndoc 5 in folder 2\ndoc 5 own bot *\ndoc 5 ban user 2\n"
                "doc 5 edit group 1 member\ndoc 6 in doc 5\ndoc 6 ban user *\n")
        self.assertEqual(rows_text(SCHEMA, STATE), text)
        self.assertEqual(read_rows(SCHEMA, text), STATE)
        self.assertEqual(rows_text(SCHEMA, tuple(STATE[::-1] * 2)), "\n".join(text.split("\n")[-2::-1]) + "\n" + "\n".join(
            text.split("\n")[-2::-1]) + "\n")
        self.assertEqual(read_rows(SCHEMA, text * 3), STATE * 3)
        self.assertEqual(rows_text(SCHEMA, []), "")
        self.assertEqual(read_rows(SCHEMA, ""), [])

    def test_any_number_of_rows(self):
        text = "".join([f"doc {k} ban user *\n" for k in range(3000)])
        self.assertEqual(read_rows(SCHEMA, text), [(("doc", k), "ban", ("all", "user")) for k in range(3000)])
        self.assertEqual(told(rows_text, SCHEMA, read_rows(SCHEMA, text)), ("InvalidState", -1))

    def test_numbers_of_a_thousand_figures(self):
        row = (("doc", THOUSAND), "own", ("one", ("user", THOUSAND)))
        text = rows_text(SCHEMA, [row])
        self.assertEqual(text, f"doc {'7' * 1000} own user {'7' * 1000}\n")
        self.assertEqual(read_rows(SCHEMA, text), [row])
        self.assertEqual(told(read_rows, SCHEMA, text.replace("doc ", "doc 0")), ("InvalidText", 0))

    def test_the_first_bad_row(self):
        fine = "doc 5 own user 1\n"
        for row in ("doc 5 own user 1 \n", " doc 5 own user 1\n", "doc  5 own user 1\n", "doc 05 own user 1\n", "doc 5 own user 01\n",
                    "doc +5 own user 1\n", "doc -5 own user 1\n", "doc -0 own user 1\n", "doc 00 own user 1\n", "doc 5_0 own user 1\n",
                    "doc 5.0 own user 1\n", "doc 5 own user 1\r\n", "doc\t5 own user 1\n", "\n", "doc 5 own\n", "doc 5 own user\n", "doc 5\n",
                    "doc 5 own user 1 own\n", "doc 5 own user * *\n", "doc 5 own user*\n", "doc 5 see user 1\n", "user 1 own doc 5\n", "doc 5 own doc 5\n",
                    "doc 5 in user 1\n", "doc 5 in doc *\n", "doc 5 in doc 5 see\n", "doc 5 own group 1 member\n", "doc 5 edit group 1 boss\n",
                    "doc 5 edit group * member\n", "doc * own user 1\n", "none 5 own user 1\n", "doc 5 own none 1\n", "Doc 5 own user 1\n",
                    "doc 5 own user 1", "doc \u0665 own user 1\n", "doc 5 own user \u00b2\n", "doc 5 own * user\n", "doc 5 edit bot 1\n",
                    "doc 5 edit user *\n", "(doc,5) own user 1\n", "doc 5 own user x\n", "doc five own user 1\n", "doc 5 own user 1 2\n"):
            self.assertEqual(told(read_rows, SCHEMA, fine * 2 + row), ("InvalidText", 2), row)
            if row.endswith("\n"):
                self.assertEqual(told(read_rows, SCHEMA, row + "bad\n" + fine), ("InvalidText", 0), row)
        self.assertEqual(told(read_rows, SCHEMA, fine + "\n" + fine), ("InvalidText", 1))
        self.assertEqual(told(read_rows, SCHEMA, fine[:-1]), ("InvalidText", 0))

    def test_there_and_back_and_no_other_text(self):
        chance = random.Random(132)
        read = 0
        for _ in range(150):
            schema = lively_schema(chance)
            state = lively_state(chance, schema, 6, 12)
            text = rows_text(schema, state)
            self.assertEqual(read_rows(schema, text), state)
            for other in spoilt_texts(chance, text, 15):
                try:
                    found = read_rows(schema, other)
                except ValueError:
                    continue
                self.assertEqual(rows_text(schema, found), other)
                self.assertIs(found == state, other == text)
                read += 1
        self.assertGreater(read, 300)

    def test_errors_in_their_order(self):
        self.assertEqual(told(rows_text, (5,), 5), ("InvalidSchema", (0,)))
        self.assertEqual(told(rows_text, SCHEMA, STATE + [5]), ("InvalidState", len(STATE)))
        self.assertEqual(told(read_rows, (5,), 5), ("InvalidSchema", (0,)))


class JournalTest(unittest.TestCase):
    SMALL = (("user", ()), ("doc", (("own", ANY), ("see", ("direct", (("one", "user"), ("who", "doc", "own"))))),))
    RULES = [("doc", "see", "own", "own")]
    TEXT = ("- put doc 7 own user 1\nuser 1 put doc 7 see user 2\nuser 1 take doc 7 see user 2\n- put doc 7 see doc 7 own\n"
            "- take doc 7 own user 1\n- put doc 0 own user *\n")

    def test_there_and_back(self):
        live = read_journal(self.SMALL, self.RULES, self.TEXT)
        self.assertEqual(journal_text(live), self.TEXT)
        self.assertEqual(live.latest(), 6)
        self.assertEqual(live.content(), [(("doc", 0), "own", ("all", "user")), (("doc", 7), "see", ("who", ("doc", 7), "own"))])
        self.assertEqual(live.since(1)[0], (2, ANN, ("put", (("doc", 7), "see", ("one", ("user", 2))))))
        self.assertEqual(journal_text(Live(self.SMALL)), "")
        self.assertEqual(read_journal(self.SMALL, (), ""), Live(self.SMALL))
        self.assertEqual(read_journal(self.SMALL, tuple(self.RULES), self.TEXT), live)

    def test_chance_made_stores_there_and_back(self):
        chance = random.Random(133)
        done = 0
        for k in range(100):
            schema, made = (some_schema(chance), some_state) if k % 4 == 0 else (lively_schema(chance), lively_state)
            rules = some_rules(chance, schema)
            live = Live(schema, rules)
            for row in made(chance, schema, 25, 2):
                live.do(chance.choice([None, None, ("user", 0), ("user", 1)]), (chance.choice(["put", "put", "take"]), row))
            text = journal_text(live)
            again = read_journal(schema, rules, text)
            self.assertEqual(again, live)
            self.assertEqual(again.since(0), live.since(0))
            self.assertEqual(journal_text(again), text)
            done += live.latest()
        self.assertGreater(done, 500)

    def test_the_first_bad_row(self):
        fine = self.TEXT.split("\n")[0] + "\n"
        for row in ("- put doc 7 own user 1\n", "- take doc 7 own user 2\n", "user 2 put doc 7 see user 2\n", "user 1 take doc 7 own user 1\n",
                    "user 1 put doc 7 own user 3\n", "- put doc 7 own user 2", "-  put doc 7 own user 2\n", "put doc 7 own user 2\n", "\n",
                    "- put\n", "-\n", "user 1\n", "user\n", "user 1 put\n", "doc 7 put doc 7 see user 2\n", "user 01 put doc 7 see user 2\n",
                    "bot 1 put doc 7 see user 2\n", "- Put doc 7 own user 2\n", "- drop doc 7 own user 1\n", "- put doc 7 own user 2 \n",
                    "-- put doc 7 own user 2\n", "user * put doc 7 see user 2\n", "- user 1 put doc 7 see user 2\n", "- put doc 7 own none 2\n",
                    "user -1 put doc 7 see user 2\n", "None put doc 7 own user 2\n", "- put doc 7 see doc 7 see\n", "- put doc 7 own user 02\n"):
            self.assertEqual(told(read_journal, self.SMALL, self.RULES, fine + row), ("InvalidText", 1), row)
            self.assertEqual(told(read_journal, self.SMALL, self.RULES, fine + row + "bad"), ("InvalidText", 1), row)

    def test_names_that_are_words(self):
        schema = (("put", ()), ("take", (("put", ("direct", (("one", "put"), ("who", "take", "put")))),)))
        live = Live(schema, [("take", "put", "put", "put")])
        row = (("take", 1), "put", ("one", ("put", 1)))
        self.assertTrue(live.do(None, ("put", row)))
        self.assertTrue(live.do(("put", 1), ("put", (("take", 1), "put", ("who", ("take", 1), "put")))))
        self.assertTrue(live.do(("put", 1), ("take", row)))
        self.assertEqual(journal_text(live), "- put take 1 put put 1\nput 1 put take 1 put take 1 put\nput 1 take take 1 put put 1\n")
        self.assertEqual(read_journal(schema, [("take", "put", "put", "put")], journal_text(live)), live)

    def test_what_is_no_store_and_one_that_has_forgotten(self):
        live = read_journal(self.SMALL, self.RULES, self.TEXT)
        for odd in odd_values():
            if not isinstance(odd, Live):
                self.assertEqual(told(journal_text, odd), ("Mismatch", "live"))
        live.forget(0)
        self.assertEqual(journal_text(live), self.TEXT)
        live.forget(1)
        self.assertEqual(told(journal_text, live), ("Mismatch", "live"))

    def test_errors_in_their_order(self):
        self.assertEqual(told(read_journal, (5,), 5, 5), ("InvalidSchema", (0,)))
        self.assertEqual(told(read_journal, self.SMALL, 5, 5), ("InvalidRules", -1))
        self.assertEqual(told(read_journal, self.SMALL, [5], 5), ("InvalidRules", 0))
        self.assertEqual(told(read_journal, self.SMALL, self.RULES, 5), ("InvalidText", -1))
        self.assertEqual(told(read_journal, (("user", ()),), (), "\n"), ("InvalidText", 0))


if __name__ == "__main__":
    unittest.main()
