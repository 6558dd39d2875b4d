"""Points 2, 3, 4, 27 and 29: values written, and read again."""

import unittest

from leastform.errors import NoText
from leastform.values import is_value
from leastform.valuetexts import read_value, show_value
from tests.helper import Asking, anything, boxes, shown, spoil, thrown_row

SIXTY = int("1234567890" * 6)
PAIRS = [
    (None, "nothing"), (False, "no"), (True, "yes"), (0, "0"), (1, "1"), (-1, "-1"), (7, "7"), (10, "10"), (-100, "-100"),
    (SIXTY, "1234567890" * 6), (-SIXTY, "-" + "1234567890" * 6), (10 ** 59, "1" + "0" * 59),
    ("", '""'), ("a", '"a"'), ('"', '""""'), ('""', '""""""'), ('a"b', '"a""b"'), ('"a', '"""a"'), ('a"', '"a"""'), (" ", '" "'),
    ("nothing", '"nothing"'), ("[1, 2]", '"[1, 2]"'), ("\\n", '"\\n"'), ("~ !#$&'()*+,-./:;<=>?@[\\]^_`{|}", '"~ !#$&\'()*+,-./:;<=>?@[\\]^_`{|}"'),
    ([], "[]"), ([None], "[nothing]"), ([1, 2], "[1, 2]"), ([1, True, "a"], '[1, yes, "a"]'), ([[]], "[[]]"), ([[], [[]], 3], "[[], [[]], 3]"),
    ({}, "{}"), ({"a": 1}, '{"a": 1}'), ({"x": None, "y": False}, '{"x": nothing, "y": no}'), ({"": {}}, '{"": {}}'),
    ({"y": 1, "x": 2, "A": 3, "": 4, "xa": 5}, '{"": 4, "A": 3, "x": 2, "xa": 5, "y": 1}'), ({'a"': '"'}, '{"a""": """"}'),
    ({", ": ": "}, '{", ": ": "}'), ([{"a": [{"b": []}]}, -5], '[{"a": [{"b": []}]}, -5]'),
    ({"b": [1, {"d": 2, "c": "}"}], "a": {"z": True, "y": [None]}}, '{"a": {"y": [nothing], "z": yes}, "b": [1, {"c": "}", "d": 2}]}'),
]
WRONG = [
    "", " ", "None", "False", "True", "null", "true", "Nothing", "NO", "Yes", "nothin", "nothing ", " nothing", "nothingx", "nothing nothing",
    "nono", "noyes", "yes,", "no no", "nothingno", "n", "y", "never", "truth no",
    "+1", "01", "00", "-0", "-01", "--1", "-", "- 1", "1 ", " 1", "1.0", "1e5", "1_000", "0x1", "1 2", "1,2", "1, 2", "1-", "1-2", "1a", "\u0661", "\u00b2",
    '"', '"a', 'a', 'a"', '"a"b"', '"a" ', ' "a"', '"a""', '"""', "'a'", '"a" "b"', '"a"1', '"a\n"', '"a\t"', '"%"', '"\u00e9"', "\n", "\t", "1\n", "\n1", "%",
    "[", "]", "[]]", "[[]", "[ ]", "[1,2]", "[1 , 2]", "[1,  2]", "[1, ]", "[1,]", "[, 1]", "[,]", "[1 2]", "[1, 2", "1, 2]", "[1, 2] ", "[1 ]", "[ 1]",
    "[1;2]", "(1, 2)", "[]1", "[] []", "[][]", "[1, 2}", "[\n]", "[\t1]", "[1,\n2]", "[01]", "[-0]", "[+1]",
    "{", "}", "{ }", "{}}", "{{}}", "{]", '{"a"}', '{"a":1}', '{"a" : 1}', '{"a":  1}', '{"a": 1,}', '{"a": 1, }', '{"a": 1,"b": 2}', '{"a": 1  "b": 2}',
    '{"b": 1, "a": 2}', '{"a": 1, "a": 1}', '{"a": 1, "a": 2}', '{"a": 1, "c": 2, "b": 3}', '{"a": 1, "b": 2, "b": 2}', '{a: 1}', '{1: 1}', "{'a': 1}", '{"a": }',
    '{"a": 1', '"a": 1}', '{"a": 1]', '{"a": 1} ', '{nothing: 1}', '{["a"]: 1}', '{"a": 1; "b": 2}', '{"a": 1}{"b": 2}', '{"a", 1}', '{"a"": 1}', '{"x": 1, "A": 2}',
    '[{"b": 1, "a": 2}]', '{"a": {"b": 1, "a": 2}}', '{"%": 1}', '{"a\n": 1}',
]


class Values(Asking):
    def reads_or_refuses(self, text):
        """Just what is written is read: nothing is read that would be written otherwise."""
        try:
            value = read_value(text)
        except NoText:
            self.refused(NoText, read_value, text)
            return False
        self.assertTrue(is_value(value), text)
        self.assertEqual(show_value(value), text)
        return True

    def test_written_and_read(self):
        for value, text in PAIRS:
            self.told(text, show_value, value)
            self.told(value, read_value, text)

    def test_the_order_of_names_says_nothing(self):
        self.told('{"a": 1, "b": {"c": 2, "d": 3}}', show_value, {"b": {"d": 3, "c": 2}, "a": 1})
        self.told('{"a": 1, "b": {"c": 2, "d": 3}}', show_value, {"a": 1, "b": {"c": 2, "d": 3}})

    def test_kinds_come_back(self):
        for value in ([1, True, 0, False], {"a": 1, "b": True}, [[1], [True]], "1", "yes", ["no", False], [None, "nothing"]):
            self.assertEqual(shown(read_value(show_value(value))), shown(value))

    def test_thrown_values(self):
        for seed in range(60):
            for value in thrown_row(seed, 6, 2 + seed % 4):
                text = self.ask(show_value, value)
                self.assertIs(type(text), str)
                self.assertEqual(shown(self.ask(read_value, text)), shown(value))

    def test_unlike_values_have_unlike_texts(self):
        values = [value for value, _ in PAIRS] + [value for seed in range(30) for value in thrown_row(seed, 6)]
        self.assertEqual(len({show_value(value) for value in values}), len({shown(value) for value in values}))

    def test_wrong_texts(self):
        for text in WRONG:
            self.refused(NoText, read_value, text)

    def test_anything_else(self):
        for thing in anything() + [None, True, False, 0, 1, -5, [], {}, ["1"], ("1",), {"a": 1}, [1], {1: 2}, "a", "b\n", "tab\t"]:
            self.refused(NoText, read_value, thing)

    def test_a_sign_more_fewer_or_other(self):
        read = 0
        for _, text in PAIRS:
            for place in range(len(text) + 1):
                read += place < len(text) and self.reads_or_refuses(text[:place] + text[place + 1:])
                for sign in ' ,:"[]{}0-n\n%':
                    read += self.reads_or_refuses(text[:place] + sign + text[place:])
                    read += self.reads_or_refuses(text[:place] + sign + text[place + 1:])
        self.assertGreater(read, 50)

    def test_two_in_one_text(self):
        for _, text in PAIRS:
            for between in (" ", ", ", ",", "\n", " | "):
                self.refused(NoText, read_value, text + between + text)
            self.reads_or_refuses(text + text)

    def test_great_texts(self):
        for value in ([None] * 4000, {"n" + str(place): [place] for place in range(1500)}, '"' * 19000, "a" * 39000, [10 ** 99, -10 ** 99]):
            text = show_value(value)
            self.assertEqual(shown(read_value(text)), shown(value))
            for wrong in (text[:-1], text + " ", text[1:], text[:-2] + text[-1] + "x"):
                self.refused(NoText, read_value, wrong)

    def test_forty_brackets(self):
        value = 1
        for turn in range(40):
            value = [value] if turn % 2 else {"a": value}
        self.assertEqual(read_value(show_value(value)), value)
        self.assertEqual(read_value("[" * 40 + "]" * 40), eval("[" * 40 + "]" * 40))
        self.refused(NoText, read_value, "[" * 40)
        self.refused(NoText, read_value, "[" * 40 + "]" * 39)
        self.refused(NoText, read_value, "{\"a\": " * 40 + "}" * 40)

    def test_what_is_told_is_the_asker_s_own(self):
        text = '[[1, {"a": []}], [1, {"a": []}]]'
        first, second = read_value(text), read_value(text)
        self.assertEqual(len({id(box) for box in boxes([first, second])}), 1 + len(boxes(first)) * 2)
        spoil(first)
        self.assertEqual(show_value(second), text)
        self.assertEqual(show_value(read_value(text)), text)


class ByName(unittest.TestCase):
    def test_arguments_have_the_interface_s_names(self):
        self.assertEqual(show_value(value=None), "nothing")
        self.assertIsNone(read_value(text="nothing"))


if __name__ == "__main__":
    unittest.main()
