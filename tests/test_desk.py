"""Points 3, 4 and 32: the desk and its rows."""

import itertools
import unittest

from leastform.desk import Desk
from leastform.errors import NoName, NoRow, NoText, NoValue
from leastform.forms import is_form
from leastform.formtexts import read_form, show_form
from leastform.joining import form_of, joined, told
from leastform.letting import fault, lets
from leastform.making import made
from leastform.meeting import met
from leastform.values import copied
from leastform.valuetexts import read_value, show_value
from tests.helper import FORMS, Asking, Dice, anything, model_lets, model_within, shown, thrown_forms, thrown_row, thrown_value

FIRSTS = ["form", "join", "meet", "value", "take", "drop", "show", "lets", "within", "made", "apart", "breaks", "kept"]
NO_NAMES = ["A", "a1", "abcdefghi", "a-", "\u00e9", "a\t", "a\n", "\n", "a%", "\"a\"", "1"]


def told_of(desk):
    """All that a desk keeps, as it tells it."""
    names = desk.say("kept")
    return [(name, desk.say("show " + name)) for name in (names.split(" ") if names else [])]


def desk_of(**texts):
    desk = Desk()
    for name, text in texts.items():
        assert desk.say(f"form {name} {text}") == "ok"
    return desk


class Rows(Asking):
    def no(self, error, desk, row):
        """Refused, and nothing changed."""
        before = told_of(desk)
        kept = shown(row)
        with self.assertRaises(error, msg=repr(row)) as caught:
            desk.say(row)
        self.assertIs(type(caught.exception), error, repr(row))
        self.assertEqual(told_of(desk), before)
        self.assertEqual(shown(row), kept)

    def asks(self, desk, row, answer):
        """Answered so, and nothing changed."""
        before = told_of(desk)
        self.assertEqual(desk.say(row), answer, row)
        self.assertIs(type(desk.say(row)), str)
        self.assertEqual(told_of(desk), before)

    def test_a_new_desk(self):
        desk = Desk()
        self.asks(desk, "kept", "")
        for row in ("show a", "drop a", "made a", "take a 1", "lets a 1", "within a a", "apart a a", "breaks a a", "join a a a", "meet a a a"):
            self.no(NoName, desk, row)

    def test_form_and_show(self):
        desk = Desk()
        for form in FORMS + thrown_forms(31, 30):
            text = show_form(form)
            self.assertEqual(desk.say("form a " + text), "ok")
            self.asks(desk, "show a", text)
        self.assertEqual(desk.say("form abcdefgh never"), "ok")
        self.assertEqual(desk.say("form b nothing"), "ok")
        self.asks(desk, "kept", "a abcdefgh b")

    def test_value(self):
        desk = Desk()
        for value in [None, True, 1, -5, "", "a b", "a \"b\" ", [], [1, [2]], {}, {"a b": [" "]}] + thrown_row(3, 30):
            self.assertEqual(desk.say("value a " + show_value(value)), "ok")
            self.asks(desk, "show a", show_form(form_of(value)))
        self.asks(desk, "kept", "a")

    def test_join_and_meet(self):
        desk = desk_of(a="number 1 to 3 by 2", b="nothing | number 2 to 3 by 1")
        self.assertEqual(desk.say("join c a b"), "ok")
        self.asks(desk, "show c", "nothing | number 1 to 3 by 1")
        self.assertEqual(desk.say("meet d a b"), "ok")
        self.asks(desk, "show d", "number 3 to 3 by 0")
        self.asks(desk, "show a", "number 1 to 3 by 2")
        self.asks(desk, "show b", "nothing | number 2 to 3 by 1")
        self.asks(desk, "kept", "a b c d")
        self.assertEqual(desk.say("meet e d c"), "ok")
        self.assertEqual(desk.say("form f truth no"), "ok")
        self.assertEqual(desk.say("meet e e f"), "ok")
        self.asks(desk, "show e", "never")

    def test_new_being_one_of_the_others(self):
        for row, answer in (("join a a b", "nothing | number 1 to 3 by 1"), ("join b a b", "nothing | number 1 to 3 by 1"), ("meet a a b", "number 3 to 3 by 0"),
                            ("meet b a b", "number 3 to 3 by 0"), ("join a b b", "nothing | number 2 to 3 by 1"), ("meet a a a", "number 1 to 3 by 2"),
                            ("join a a a", "number 1 to 3 by 2")):
            desk = desk_of(a="number 1 to 3 by 2", b="nothing | number 2 to 3 by 1")
            before = dict(told_of(desk))
            self.assertEqual(desk.say(row), "ok")
            before[row.split(" ")[1]] = answer
            self.assertEqual(dict(told_of(desk)), before)

    def test_take(self):
        desk = desk_of(a="never")
        for value, answer, text in (("1", "more", "number 1 to 1 by 0"), ("1", "same", "number 1 to 1 by 0"), ("yes", "more", "truth yes | number 1 to 1 by 0"),
                                    ("3", "more", "truth yes | number 1 to 3 by 2"), ("1", "same", "truth yes | number 1 to 3 by 2"),
                                    ("[1, 2]", "more", "truth yes | number 1 to 3 by 2 | list 2 to 2 of (number 1 to 2 by 1)"),
                                    ("[2, 2]", "same", "truth yes | number 1 to 3 by 2 | list 2 to 2 of (number 1 to 2 by 1)")):
            self.assertEqual(desk.say("take a " + value), answer)
            self.asks(desk, "show a", text)
        self.no(NoName, desk, "take b 1")

    def test_drop(self):
        desk = desk_of(a="never", b="nothing")
        self.assertEqual(desk.say("drop a"), "ok")
        self.asks(desk, "kept", "b")
        self.no(NoName, desk, "drop a")
        self.no(NoName, desk, "show a")
        self.assertEqual(desk.say("drop b"), "ok")
        self.asks(desk, "kept", "")
        self.assertEqual(desk.say("form a never"), "ok")
        self.asks(desk, "kept", "a")

    def test_lets(self):
        desk = desk_of(a='truth yes | number 1 to 3 by 2 | text few "a" | list 1 to 2 of (nothing) | record 1 to 2 of ("x" must (nothing), "y" may (nothing), "z" may (nothing))',
                       t='table 2 to 3 of (make "" 1 to 2 small (nothing))', n="never")
        for value, answer in (("yes", "yes"), ("3", "yes"), ('"a"', "yes"), ("[nothing]", "yes"), ('{"x": nothing}', "yes"), ("nothing", "no kind"), ("no", "no truth"),
                              ("2", "no number"), ('"b"', "no text"), ("[]", "no short"), ("[nothing, nothing, nothing]", "no long"), ("[1]", "no kind"), ("{}", "no lacks"),
                              ('{"a": 1, "x": 2}', "no strange"), ('{"x": nothing, "y": nothing, "z": nothing}', "no many"), ('{"x": 1}', "no kind")):
            self.asks(desk, "lets a " + value, answer)
            self.asks(desk, "lets n " + value, "no kind")
        self.asks(desk, 'lets t {"x": nothing}', "no few")
        self.asks(desk, 'lets t {"x": nothing, "y": nothing}', "yes")

    def test_within(self):
        desk = desk_of(a="number 1 to 3 by 2", b="nothing | number 1 to 3 by 1", c='text few "a b"', n="never", l="list 2 to 2 of (list 0 to 0 of (never))")
        self.asks(desk, "within a b", "yes")
        self.asks(desk, "within b a", "no nothing")
        self.asks(desk, "within c a", 'no "a b"')
        self.asks(desk, "within l a", "no [[], []]")
        for name in "abcnl":
            self.asks(desk, f"within {name} {name}", "yes")
            self.asks(desk, f"within n {name}", "yes")

    def test_made(self):
        desk = desk_of(a="nothing", b="truth yes", c='record 1 to 1 of ("a b" must (list 2 to 2 of (nothing)))', n="never")
        self.asks(desk, "made a", "nothing")
        self.asks(desk, "made b", "yes")
        self.asks(desk, "made c", '{"a b": [nothing, nothing]}')
        self.no(NoValue, desk, "made n")
        self.no(NoName, desk, "made x")

    def test_apart(self):
        desk = desk_of(a="number 1 to 3 by 2", b="number 2 to 4 by 2", c="number 3 to 4 by 1", n="never")
        for row, answer in (("a b", "yes"), ("b a", "yes"), ("a c", "no"), ("c b", "no"), ("a a", "no"), ("n n", "yes"), ("a n", "yes"), ("n a", "yes")):
            self.asks(desk, "apart " + row, answer)

    def test_breaks(self):
        desk = desk_of(a="number 1 to 3 by 2", b="number 1 to 3 by 1", c="nothing", n="never")
        for row, answer in (("a a", "none"), ("a b", "readers"), ("b a", "writers"), ("a c", "both"), ("c a", "both"), ("n n", "none"), ("n a", "readers"), ("a n", "writers")):
            self.asks(desk, "breaks " + row, answer)

    def test_kept(self):
        desk = Desk()
        for name, answer in (("z", "z"), ("ab", "ab z"), ("b", "ab b z"), ("a", "a ab b z"), ("kept", "a ab b kept z"), ("form", "a ab b form kept z")):
            desk.say(f"form {name} never")
            self.asks(desk, "kept", answer)

    def test_no_row_by_its_first_word(self):
        desk = desk_of(a="nothing", b="never")
        for row in ["", " ", "  ", "a", "Form a never", "FORM a never", "form\ta\tnever", "form\na", "forms a never", " form a never", "  show a", "\tshow a", "show\n", "shows a",
                    "joined c a b", "undo", "again", "names", "kept\n", "Kept", "help", "never", "nothing", "form a never".upper(), "\"show\" a", "show,a", "%", "a kept", "core a"]:
            self.no(NoRow, desk, row)

    def test_no_row_by_the_number_of_words(self):
        desk = desk_of(a="nothing", b="never")
        for row in ["form", "form a", "form ", "join", "join c", "join c a", "join c a b b", "join c a b ", "join  c a b", "join c a  b", " join c a b", "meet", "meet c a", "meet c a b a",
                    "meet c a b ", "value", "value a", "value ", "take", "take a", "take ", "drop", "drop a b", "drop a ", "drop  a", "drop a  ", "show", "show a b", "show  a", "show a ", "show  ",
                    "lets", "lets a", "lets ", "within", "within a", "within a b a", "within a b ", "within  a b", "within a  b", "made", "made a b", "made a ", "made  a", "apart", "apart a",
                    "apart a b b", "apart a  b", "breaks", "breaks a", "breaks a b a", "breaks a b ", "kept ", "kept a", " kept", "kept  ", "kept a b"]:
            self.no(NoRow, desk, row)

    def test_a_word_without_signs(self):
        desk = desk_of(a="nothing", b="never")
        for row in ["drop ", "show ", "made ", "join  a b", "join c a ", "join c  b", "join  a ", "join   ", "meet c  b", "meet  a b", "within  b", "within a ", "within  ", "apart  b", "apart a ",
                    "breaks  b", "breaks a ", "form  never", "form  ", "value  1", "value  ", "take  1", "take  ", "lets  1", "lets  "]:
            self.no(NoName, desk, row)

    def test_nothing_behind_the_last_blank(self):
        desk = desk_of(a="nothing", b="never")
        for row in ["form a ", "form c ", "value a ", "value c ", "take a ", "lets a "]:
            self.no(NoText, desk, row)
        for row in ["form c", "value c", "take a", "lets a"]:
            self.no(NoRow, desk, row)

    def test_no_text_of_python_s(self):
        desk = desk_of(a="nothing")
        for thing in anything() + [None, True, 0, 1, [], {}, (), ["kept"], ("kept",), {"kept": 1}, ["show", "a"]]:
            if not isinstance(thing, str):
                self.no(NoRow, desk, thing)
        for thing in anything():
            if isinstance(thing, str):
                self.no(NoRow, desk, thing)

    def test_names_that_are_none(self):
        desk = desk_of(a="nothing", b="never")
        for name in NO_NAMES + ["c", "ab"]:
            for row in ["drop X", "show X", "made X", "take X 1", "lets X 1", "within X a", "within a X", "apart X a", "apart a X", "breaks X a", "breaks a X", "join a X b", "join a b X",
                        "meet a X b", "meet a b X", "join c X X"]:
                self.no(NoName, desk, row.replace("X", name))
        for name in NO_NAMES:
            for row in ["form X never", "value X 1", "join X a b", "meet X a b"]:
                self.no(NoName, desk, row.replace("X", name))

    def test_texts_that_are_none(self):
        desk = desk_of(a="nothing", b="never")
        for text in ["never", "01", "-0", "[1,2]", "1 ", " 1", "\"a", "a", "{\"b\": 1, \"a\": 2}", "1\n", "\"%\"", "nothing nothing", "\"\t\"", "truth no"]:
            for row in ["value c ", "value a ", "take a ", "lets a "]:
                self.no(NoText, desk, row + text)
        for text in ["1", "Never", "never ", " never", "nothing | nothing", "truth no | nothing", "list 0 to 0 of (nothing)", "nothing\n", "text few \"%\"", "number 1 to 1 by 1", "()", "no"]:
            for row in ["form a ", "form c "]:
                self.no(NoText, desk, row + text)

    def test_two_faults_at_once(self):
        desk = desk_of(a="nothing", n="never")
        for error, rows in (
            (NoRow, ["show A b", "join A b", "form A", "shows A", "kept A", "value A", "lets x", "made n n", "drop A B"]),
            (NoName, ["form A x", "value A x", "take x x", "lets x x", "form A ", "value A ", "take x ", "lets x ", "take A x", "join A b c", "made x", "form  x"]),
            (NoText, ["form a x", "value a x", "take a x", "lets a x", "lets n x", "form c x", "form a  ", "lets n "]),
            (NoValue, ["made n"]),
        ):
            for row in rows:
                self.no(error, desk, row)

    def test_a_new_name_is_not_kept_where_it_must_be(self):
        desk = desk_of(a="nothing")
        self.no(NoName, desk, "join c c a")
        self.no(NoName, desk, "meet c a c")
        self.assertEqual(desk.say("join c a a"), "ok")
        self.assertEqual(desk.say("join c c a"), "ok")

    def test_two_desks_are_each_for_themselves(self):
        one, other = Desk(), Desk()
        one.say("form a nothing")
        self.asks(other, "kept", "")
        other.say("form b never")
        other.say("form a truth no")
        self.asks(one, "kept", "a")
        self.asks(one, "show a", "nothing")
        one.say("drop a")
        self.asks(other, "kept", "a b")

    def test_blanks_in_values_and_forms(self):
        desk = Desk()
        self.assertEqual(desk.say('value a "a  b "'), "ok")
        self.asks(desk, "show a", 'text few "a  b "')
        self.asks(desk, 'lets a "a  b "', "yes")
        self.asks(desk, 'lets a "a b "', "no text")
        self.assertEqual(desk.say('form b text few " " "  "'), "ok")
        self.asks(desk, "show b", 'text few " " "  "')
        self.no(NoText, desk, 'form b text few " "  "  "')

    def test_by_the_other_modules(self):
        forms = FORMS[::3] + thrown_forms(32, 12)
        names = [first + second for first, second in itertools.product("abcdefgh", repeat=2)][:len(forms)]
        desk = desk_of(**{name: show_form(form) for name, form in zip(names, forms)})
        self.assertEqual(desk.say("kept"), " ".join(sorted(names)))
        values = thrown_row(5, 10)
        for name, form in zip(names, forms):
            for value in values:
                found = fault(form, value)
                self.assertEqual(desk.say(f"lets {name} {show_value(value)}"), "yes" if found is None else "no " + found[1])
            if form != ():
                value = read_value(desk.say("made " + name))
                self.assertTrue(model_lets(form, value))
                self.assertEqual(shown(value), shown(made(form)))
        for (first, one), (second, other) in itertools.product(zip(names, forms), repeat=2):
            answer = desk.say(f"within {first} {second}")
            if model_within(one, other):
                self.assertEqual(answer, "yes")
            else:
                self.assertEqual(answer[:3], "no ")
                value = read_value(answer[3:])
                self.assertTrue(model_lets(one, value) and not model_lets(other, value))
            self.assertEqual(desk.say(f"apart {first} {second}"), "yes" if met(one, other) == () else "no")
            writers, readers = not model_within(one, other), not model_within(other, one)
            self.assertEqual(desk.say(f"breaks {first} {second}"), ["none", "readers", "writers", "both"][2 * writers + readers])
            self.assertEqual(desk.say(f"join new {first} {second}"), "ok")
            self.assertEqual(desk.say("show new"), show_form(joined(one, other)))
            self.assertEqual(desk.say(f"meet new {first} {second}"), "ok")
            self.assertEqual(desk.say("show new"), show_form(met(one, other)))

    def test_rows_of_samples(self):
        for seed in range(20):
            desk = desk_of(a="never")
            row = thrown_row(seed, 15)
            for place, sample in enumerate(row):
                let = lets(told(row[:place]), sample)
                self.assertEqual(desk.say("take a " + show_value(sample)), "same" if let else "more")
                self.assertEqual(read_form(desk.say("show a")), told(row[:place + 1]))

    def test_thrown_rows_of_words(self):
        """Whatever is said is answered or refused by one of the refusals, and then nothing is changed."""
        dice = Dice(77)
        desk = Desk()
        words = ["a", "a", "b", "b", "c", "c", "A", "", "1", "never", "nothing", "[1]", "kept", "number 1 to 3 by 2"]
        answered = 0
        for _ in range(6000):
            row = " ".join([dice.one_of(FIRSTS + ["form", "value", "join"] * 4)] + [dice.one_of(words) for _ in range(dice.below(4))])
            before = told_of(desk)
            try:
                answer = desk.say(row)
            except (NoRow, NoName, NoText, NoValue):
                self.assertEqual(told_of(desk), before)
            else:
                answered += 1
                self.assertIs(type(answer), str)
                for _, text in told_of(desk):
                    self.assertIs(is_form(read_form(text)), True)
        self.assertGreater(answered, 300)

    def test_what_is_told_by_a_value_read_is_not_kept(self):
        value = thrown_value(Dice(9), 4)
        kept = copied(value)
        desk = Desk()
        desk.say("value a " + show_value(value))
        self.assertEqual(shown(value), shown(kept))
        self.asks(desk, "show a", show_form(form_of(kept)))


class ByName(unittest.TestCase):
    def test_arguments_have_the_interface_s_names(self):
        self.assertEqual(Desk().say(row="kept"), "")


if __name__ == "__main__":
    unittest.main()
