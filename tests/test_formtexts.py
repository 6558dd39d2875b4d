"""Points 3, 4, 14, 28 and 29: forms written, and read again."""

import unittest

from leastform.errors import NoText
from leastform.forms import is_form
from leastform.formtexts import read_form, show_form
from leastform.joining import joined, told
from leastform.meeting import met
from tests.helper import (
    FORMS, NO, NUMBERS, SMALLS, Asking, anything, deep_lists, deep_records, few, lists, make, may, must, record, table,
    thrown_forms, thrown_row,
)

GREAT = 10 ** 59
ONE = ("numbers", 1, 1, 0)
AB = make("ab", 0, 3, "figure", "small")
PAIRS = [
    ((), "never"), ((NO,), "nothing"), ((("truths", (False,)),), "truth no"), ((("truths", (True,)),), "truth yes"),
    ((("truths", (False, True)),), "truth no yes"), ((("numbers", 3, 9, 2),), "number 3 to 9 by 2"),
    ((("numbers", 3, 3, 0),), "number 3 to 3 by 0"), ((("numbers", -3, 0, 3),), "number -3 to 0 by 3"),
    ((("numbers", -GREAT, GREAT, 2 * GREAT),), f"number -{GREAT} to {GREAT} by {2 * GREAT}"),
    ((("texts", few("a", "b")),), 'text few "a" "b"'), ((("texts", few("")),), 'text few ""'), ((("texts", few(*"abcdef")),), 'text few "a" "b" "c" "d" "e" "f"'),
    ((("texts", few("\"", "a\"b")),), 'text few """" "a""b"'), ((("texts", few(" | ", "(", ")")),), 'text few " | " "(" ")"'),
    ((("texts", AB),), 'text make "ab" 0 to 3 figure small'),
    ((("texts", make("", 1, 1, "other")),), 'text make "" 1 to 1 other'),
    ((("texts", make("\"", 0, 58, "figure", "great", "other", "small")),), 'text make """" 0 to 58 figure great other small'),
    ((lists(0, 3, NO),), "list 0 to 3 of (nothing)"), ((lists(0, 0),), "list 0 to 0 of (never)"),
    ((lists(12, 60, NO, ONE),), "list 12 to 60 of (nothing | number 1 to 1 by 0)"), ((lists(1, 1, lists(0, 0)),), "list 1 to 1 of (list 0 to 0 of (never))"),
    ((record(1, 2, must("a", NO), may("b", ONE)),), 'record 1 to 2 of ("a" must (nothing), "b" may (number 1 to 1 by 0))'),
    ((record(0, 0),), "record 0 to 0 of ()"), ((record(1, 1, must("a", NO)),), 'record 1 to 1 of ("a" must (nothing))'),
    ((record(0, 1, may("", NO)),), 'record 0 to 1 of ("" may (nothing))'), ((record(0, 1, may("\"", NO)),), 'record 0 to 1 of ("""" may (nothing))'),
    ((record(1, 1, may("a", lists(0, 0)), may("b", record(0, 0))),), 'record 1 to 1 of ("a" may (list 0 to 0 of (never)), "b" may (record 0 to 0 of ()))'),
    ((table(9, 12, AB, NO),), 'table 9 to 12 of (make "ab" 0 to 3 figure small (nothing))'),
    ((table(0, 1, SMALLS, NO, table(1, 1, AB, ONE)),),
     'table 0 to 1 of (make "" 1 to 2 small (nothing | table 1 to 1 of (make "ab" 0 to 3 figure small (number 1 to 1 by 0))))'),
    ((NO, ("truths", (True,)), ONE, ("texts", few("a")), lists(0, 0), record(0, 0)),
     'nothing | truth yes | number 1 to 1 by 0 | text few "a" | list 0 to 0 of (never) | record 0 to 0 of ()'),
    ((("texts", AB), table(1, 2, SMALLS, ("texts", AB), lists(1, 1, NO))),
     'text make "ab" 0 to 3 figure small | table 1 to 2 of (make "" 1 to 2 small (text make "ab" 0 to 3 figure small | list 1 to 1 of (nothing)))'),
]
WRONG = [
    "", " ", "never ", " never", "Never", "()", "(never)", "never | nothing", "nothing | never", "never | never", "None",
    "nothing ", " nothing", "nothing |", "nothing | ", "| nothing", "nothing  | truth no", "nothing| truth no", "nothing |truth no", "nothing | nothing",
    "truth no | nothing", "nothing, truth no", "nothingtruth no", "nothing\n", "nothing\t", "(nothing)", "nothing | number 1 to 1 by 0 | truth no",
    "truth", "truth ", "truth  no", "truth yes no", "truth no no", "truth yes yes", "truth no  yes", "truth no, yes", "truths no", "truth False", "truthno", "truth nothing",
    "number", "number ", "number 1", "number 1 to 1", "number 1 to 1 by", "number 1 to 1 by ", "number 1 to 1 by 1", "number 1 to 2 by 0", "number 2 to 1 by 1",
    "number 1 to 4 by 2", "number 1 to 5 by -2", "number 01 to 5 by 2", "number 1 to 05 by 2", "number 1 to 5 by 02", "number +1 to 5 by 2", "number -0 to 4 by 2",
    "number 1 to 5 by +2", "number  1 to 5 by 2", "number 1  to 5 by 2", "number 1 to  5 by 2", "number 1 to 5  by 2", "number 1 to 5 by  2", "number 1 to 5 by 2 ",
    "number 1 TO 5 by 2", "numbers 1 to 5 by 2", "number 1 5 2", "number 1-5 by 2", "number 1 to 5 by 2 | number 1 to 5 by 2", "number 1.0 to 5 by 2",
    "text", "text ", "text few", "text few ", "text few  \"a\"", "text few a", 'text few "a', 'text few "a"b"', 'text few "b" "a"', 'text few "a" "a"', 'text few "a", "b"',
    'text few "a""b" ', 'text few "a"  "b"', 'text few "a" "b" "c" "d" "e" "f" "g"', 'text few "%"', 'text few "\n"', 'text "a"', 'few "a"', 'texts few "a"', 'text few"a"',
    'text make', 'text make ', 'text make "ab"', 'text make "ab" 0 to 3', 'text make "ab" 0 to 3 ', 'text make "ab" 0 to 3 figures', 'text make "ab" 0 to 3 small figure',
    'text make "ab" 0 to 3 figure figure', 'text make "ab" 3 to 0 figure', 'text make "ab" 0 to 0 figure', 'text make "ab" -1 to 3 figure', 'text make ab 0 to 3 figure',
    'text make "ab" 0 to 3  figure', 'text make "ab" 0 to 3 figure  small', 'text make "ab" 0 to 3 figure, small', 'text make  "ab" 0 to 3 figure', 'text make "ab" 00 to 3 figure',
    'text make "ab" 0 to 3 figure ', 'text make "ab"0 to 3 figure', 'make "ab" 0 to 3 figure', 'text make "%" 0 to 3 figure', 'text make "ab" 0 to 3 (figure)',
    'text make "ab" 0 to 3 figure great small other', 'text make "ab" 0 to 3 figure small | text few "a"',
    "list", "list 0 to 3", "list 0 to 3 of", "list 0 to 3 of ()", "list 0 to 3 of (never)", "list 0 to 0 of (nothing)", "list 0 to 0 of ()", "list 3 to 0 of (nothing)",
    "list -1 to 3 of (nothing)", "list 0 to 3 of nothing", "list 0 to 3 of (nothing", "list 0 to 3 of nothing)", "list 0 to 3 of (nothing))", "list 0 to 3 of ((nothing))",
    "list 0 to 3 of ( nothing)", "list 0 to 3 of (nothing )", "list 0 to 3 of  (nothing)", "list 0 to 3  of (nothing)", "list 0 to 3 of(nothing)", "list 0 to 3 (nothing)",
    "list 0 to 3 of [nothing]", "list 00 to 3 of (nothing)", "list 0 to 03 of (nothing)", "lists 0 to 3 of (nothing)", "list 0 to 3 of (truth no | nothing)", "list 0 of (nothing)",
    "list 0 to 0 of (never) | list 0 to 0 of (never)", "list 0 to 3 of (nothing) (nothing)", "list 0 to 3 of (nothing) nothing", "list 0 to 3 of (list 0 to 0 of (nothing))",
    "record", "record 0 to 0", "record 0 to 0 of", "record 0 to 0 of (", "record 0 to 0 of ( )", "record 0 to 0 of (never)", "record 0 to 1 of ()", "record 1 to 1 of ()",
    'record 0 to 1 of ("a" must (nothing))', 'record 0 to 0 of ("a" may (nothing))', 'record 1 to 1 of ("a" may (nothing))', 'record 1 to 2 of ("a" must (nothing))',
    'record 1 to 1 of ("a" must (never))', 'record 1 to 1 of ("a" (nothing))', 'record 1 to 1 of ("a" must nothing)', 'record 1 to 1 of ("a" will (nothing))',
    'record 1 to 1 of (a must (nothing))', 'record 1 to 1 of ("a"  must (nothing))', 'record 1 to 1 of ("a" must  (nothing))', 'record 1 to 1 of ("a" must(nothing))',
    'record 1 to 1 of ("a" must (nothing)', 'record 1 to 1 of ("a" must (nothing)))', 'record 1 to 1 of ("a" must (nothing),)', 'record 1 to 1 of ("a" must (nothing), )',
    'record 1 to 1 of (, "a" must (nothing))', 'record 2 to 2 of ("a" must (nothing) "b" must (nothing))', 'record 2 to 2 of ("a" must (nothing),"b" must (nothing))',
    'record 2 to 2 of ("a" must (nothing),  "b" must (nothing))', 'record 2 to 2 of ("b" must (nothing), "a" must (nothing))', 'record 2 to 2 of ("a" must (nothing), "a" must (nothing))',
    'record 1 to 2 of ("a" may (nothing), "a" may (nothing))', 'record 1 to 1 of ("a" must (nothing), "b" may (nothing))', 'record 2 to 2 of ("a" must (nothing), "b" may (nothing))',
    'record 0 to 2 of ("a" must (nothing), "b" may (nothing))', 'record 2 to 1 of ("a" may (nothing), "b" may (nothing))', 'record 1 to 1 of ("%" must (nothing))', "records 0 to 0 of ()",
    "record 0 to 0 of () | record 0 to 0 of ()", 'record 0 to 0 of () | table 0 to 1 of (make "" 1 to 2 small (nothing))', 'record 00 to 0 of ()', 'record 1 to 1 of "a" must (nothing)',
    'record 1 to 1 of ("a" must (nothing) | "b" must (nothing))', 'record 9 to 9 of (' + ", ".join(f'"{name}" must (nothing)' for name in "abcdefghi") + ")",
    "table", 'table 9 to 12', 'table 9 to 12 of (nothing)', 'table 9 to 12 of (make "ab" 0 to 3 figure small)', 'table 9 to 12 of (make "ab" 0 to 3 figure small nothing)',
    'table 9 to 12 of (make "ab" 0 to 3 figure small (never))', 'table 9 to 12 of (make "ab" 0 to 3 figure small  (nothing))', 'table 9 to 12 of (make "ab" 0 to 3 figure small(nothing))',
    'table 9 to 12 of (make "ab" 0 to 3 (nothing))', 'table 9 to 12 of (make "ab" 0 to 3 small figure (nothing))', 'table 12 to 9 of (make "ab" 0 to 3 figure small (nothing))',
    'table 0 to 0 of (make "ab" 0 to 3 figure small (nothing))', 'table 0 to 11 of (make "" 1 to 1 figure (nothing))', 'table 1 to 1 of (few "a" "b" (nothing))',
    'table 9 to 12 of make "ab" 0 to 3 figure small (nothing)', 'table 9 to 12 of (make "ab" 0 to 3 figure small (nothing)', 'table 9 to 12 of (make "ab" 0 to 3 figure small (nothing)))',
    'table 9 to 12 of (text make "ab" 0 to 3 figure small (nothing))', 'table 9 to 12 of ("ab" 0 to 3 figure small (nothing))', 'table -1 to 12 of (make "ab" 0 to 3 figure small (nothing))',
    'table 9 to 12 of (make "ab" 0 to 0 figure (nothing))', 'table 9 to 12 of (make "ab" 0 to 3 figure small (nothing)) ', 'tables 9 to 12 of (make "ab" 0 to 3 figure small (nothing))',
    'table 9 to 12 of (make "ab" 0 to 3 figure small (nothing), make "ab" 0 to 3 figure small (nothing))', '"a"', "1", "[]", "{}", "yes", "no", "%", "\n", "\u00e9",
]


class Forms(Asking):
    def reads_or_refuses(self, text):
        """Just what is written is read: nothing is read that would be written otherwise."""
        try:
            form = read_form(text)
        except NoText:
            return False
        self.assertIs(is_form(form), True, text)
        self.assertEqual(show_form(form), text)
        return True

    def hold(self, form):
        text = self.ask(show_form, form)
        self.assertIs(type(text), str)
        self.told(form, read_form, text)

    def test_written_and_read(self):
        for form, text in PAIRS:
            self.assertIs(is_form(form), True, form)
            self.told(text, show_form, form)
            self.told(form, read_form, text)

    def test_within_one_another(self):
        for form, text in PAIRS[1:]:
            self.told(f"list 1 to 2 of ({text})", show_form, (lists(1, 2, *form),))
            self.told(f'nothing | record 1 to 2 of ("a" must ({text}), "b" may ({text}))', show_form, (NO, record(1, 2, must("a", *form), may("b", *form))))
            self.told(f'table 1 to 2 of (make "ab" 0 to 3 figure small ({text}))', show_form, (table(1, 2, AB, *form),))
            for whole in ((lists(1, 2, *form),), (NO, record(1, 2, must("a", *form), may("b", *form))), (table(1, 2, AB, *form),)):
                self.hold(whole)

    def test_a_pool(self):
        for form in FORMS + thrown_forms(21, 80, 4):
            self.hold(form)

    def test_forms_told_joined_and_met(self):
        forms = [told(thrown_row(seed, 1 + seed % 12, 2 + seed % 3)) for seed in range(40)]
        for one, other in zip(forms, forms[1:]):
            for form in (one, joined(one, other), met(one, other)):
                self.hold(form)

    def test_unlike_forms_have_unlike_texts(self):
        forms = set(FORMS + thrown_forms(22, 150))
        self.assertEqual(len({show_form(form) for form in forms}), len(forms))

    def test_wrong_texts(self):
        for text in WRONG:
            self.refused(NoText, read_form, text)
            if text not in ("()", ""):
                self.refused(NoText, read_form, f"list 1 to 2 of ({text})")

    def test_anything_else(self):
        for thing in anything() + [None, True, 0, [], {}, (NO,), ("nothing",), ["nothing"], {"nothing": 1}, "a", "nothing\n", "\tnothing"]:
            self.refused(NoText, read_form, thing)

    def test_a_sign_more_fewer_or_other(self):
        read = 0
        for _, text in PAIRS:
            for place in range(len(text) + 1):
                read += place < len(text) and self.reads_or_refuses(text[:place] + text[place + 1:])
                for sign in ' ,|"()0-1n\n%':
                    read += self.reads_or_refuses(text[:place] + sign + text[place:])
                    read += self.reads_or_refuses(text[:place] + sign + text[place + 1:])
        self.assertGreater(read, 100)

    def test_two_in_one_text(self):
        for _, text in PAIRS:
            for between in (" ", ", ", ",", "\n", " | ", ""):
                self.reads_or_refuses(text + between + text)
                if between != " | ":
                    self.refused(NoText, read_form, "nothing" + between + text)

    def test_great_texts(self):
        form = deep_records("abcde", 0, 5, may, 4, NUMBERS)
        text = show_form(form)
        self.assertGreater(len(text), 20000)
        self.assertEqual(read_form(text), form)
        for wrong in (text[:-1], text + " ", text[1:], text.replace("8 by 2", "8 by 3"), text.replace("may", "must")):
            self.refused(NoText, read_form, wrong)
        self.hold((("texts", few(*["\"" * (60 - place) for place in range(6)][::-1])),))

    def test_forty_brackets(self):
        for form in (deep_lists(0, 3, 40, NO), deep_records("a", 1, 1, must, 20, NO)):
            self.hold(form)
            self.refused(NoText, read_form, show_form(form)[:-1])
        self.refused(NoText, read_form, "list 0 to 3 of (" * 40)
        self.refused(NoText, read_form, "(" * 40 + ")" * 40)
        self.refused(NoText, read_form, f"number {'1' * 100} to {'1' * 100} by 1")
        self.hold((("numbers", 10 ** 99, 10 ** 99, 0),))


class ByName(unittest.TestCase):
    def test_arguments_have_the_interface_s_names(self):
        self.assertEqual(show_form(form=()), "never")
        self.assertEqual(read_form(text="never"), ())


if __name__ == "__main__":
    unittest.main()
