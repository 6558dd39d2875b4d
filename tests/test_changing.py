"""Points 2 to 5 and 24 to 26: places in a form, changes from an old form to a new one, and whom they break."""

import itertools
import unittest

from leastform.changing import breaks, changes, form_at, places_in
from leastform.errors import NoPath
from leastform.forms import is_form
from leastform.holding import parted, within
from leastform.joining import joined, told
from leastform.meeting import met
from tests.helper import (
    FORMS, KINDS, NO, NUMBERS, SMALLS, Asking, Dice, anything, as_form, boxes, deep_records, few, lists, make, may, model_lets,
    model_part, model_within, must, record, spoil, table, thrown_form, thrown_forms, thrown_row,
)

FIGURES = make("", 1, 1, "figure")
TEXTS = ("texts", SMALLS)
ONE = ("numbers", 1, 1, 0)
TWO = ("numbers", 1, 2, 1)
ITEMS = ("items",)
VALUES = ("values",)
A = ("field", "a")
B = ("field", "b")


def hollow(part):
    """The part with the same form for all forms within it, so that within asks for what it says beside them."""
    if part[0] == "lists":
        return part[:3] + ((NO,) if part[2] > 0 else (),)
    if part[0] == "record":
        return part[:3] + (tuple((name, is_must, (NO,)) for name, is_must, _ in part[3]),)
    return part[:4] + ((NO,),) if part[0] == "table" else part


def model_way(old, new):
    if old is None or new is None:
        return None if old == new else "come" if old is None else "gone"
    old, new = (hollow(old),), (hollow(new),)
    if old == new:
        return None
    return "wider" if model_within(old, new) else "narrower" if model_within(new, old) else "other"


def model_deeper(old, new):
    """The forms within two parts that point 25 holds against each other, with their steps."""
    if old is None or new is None:
        return []
    if old[0] == "lists":
        return [(ITEMS, old[3], new[3])]
    if old[0] == new[0] == "table":
        return [(VALUES, old[4], new[4])]
    mine = {name: form for name, _, form in old[3]} if old[0] == "record" else None
    theirs = {name: form for name, _, form in new[3]} if new[0] == "record" else None
    if mine is None and theirs is None:
        return []
    names = sorted(theirs if mine is None else mine)
    return [(("field", name), old[4] if mine is None else mine[name], new[4] if theirs is None else theirs[name])
            for name in names if mine is None or theirs is None or name in theirs]


def model_changes(old, new, place=()):
    pairs = [(kind, model_part(old, kind), model_part(new, kind)) for kind in KINDS]
    found = [(place, kind, model_way(one, other)) for kind, one, other in pairs if model_way(one, other) is not None]
    for _, one, other in pairs:
        for step, inner_old, inner_new in model_deeper(one, other):
            found += model_changes(inner_old, inner_new, place + (step,))
    return found


class Places(Asking):
    def hold(self, form, expected):
        """expected: tuples (place, form) in their order."""
        self.assertIs(is_form(form), True, form)
        self.told([place for place, _ in expected], places_in, form)
        for place, inner in expected:
            self.told(inner, form_at, form, place)

    def test_of_leaves(self):
        for form in ((), (NO,), (NUMBERS,), (NO, ("truths", (True,)), NUMBERS, TEXTS), (record(0, 0),)):
            self.hold(form, [((), form)])

    def test_of_lists(self):
        self.hold((lists(0, 0),), [((), (lists(0, 0),)), ((ITEMS,), ())])
        self.hold((lists(0, 2, NO),), [((), (lists(0, 2, NO),)), ((ITEMS,), (NO,))])
        form = (NO, lists(0, 2, NUMBERS, lists(1, 1, lists(0, 0))))
        self.hold(form, [((), form), ((ITEMS,), (NUMBERS, lists(1, 1, lists(0, 0)))), ((ITEMS, ITEMS), (lists(0, 0),)), ((ITEMS,) * 3, ())])

    def test_of_records(self):
        form = (record(1, 2, must("a", NO), may("b", ONE)),)
        self.hold(form, [((), form), ((A,), (NO,)), ((B,), (ONE,))])
        form = (record(1, 3, may("", lists(0, 1, NO)), must("a", record(1, 1, must("a", ONE))), may("items", NO)),)
        self.hold(form, [((), form), ((("field", ""),), (lists(0, 1, NO),)), ((("field", ""), ITEMS), (NO,)),
                         ((A,), (record(1, 1, must("a", ONE)),)), ((A, A), (ONE,)), ((("field", "items"),), (NO,))])

    def test_of_tables(self):
        form = (table(1, 2, SMALLS, NO, table(1, 1, FIGURES, ONE)),)
        self.hold(form, [((), form), ((VALUES,), (NO, table(1, 1, FIGURES, ONE))), ((VALUES, VALUES), (ONE,))])

    def test_lists_ahead_of_fields_and_tables(self):
        inner = lists(0, 1, ONE)
        form = (NUMBERS, lists(0, 2, record(1, 1, must("b", inner))), record(1, 2, must("a", inner), may("b", TEXTS)))
        self.hold(form, [((), form), ((ITEMS,), (record(1, 1, must("b", inner)),)), ((ITEMS, B), (inner,)), ((ITEMS, B, ITEMS), (ONE,)),
                         ((A,), (inner,)), ((A, ITEMS), (ONE,)), ((B,), (TEXTS,))])
        form = (lists(0, 2, NO), table(1, 2, SMALLS, ONE, lists(0, 0)))
        self.hold(form, [((), form), ((ITEMS,), (NO,)), ((VALUES,), (ONE, lists(0, 0))), ((VALUES, ITEMS), ())])

    def test_no_place(self):
        form = (lists(0, 2, NO), record(1, 2, must("a", lists(0, 0)), may("b", ONE)))
        for place in anything() + [
            None, True, False, 0, 1, "", "items", "a", [], {}, [ITEMS], [A], {ITEMS: 1}, ITEMS, A, VALUES, ("items", "items"), ("a",), ("b",),
            (VALUES,), (("item",),), (("Items",),), (("items", 0),), (("items", None),), (("items", "a"),), (["items"],), ("items",),
            (("field",),), (("field", "c"),), (("field", ""),), (("field", "A"),), (("field", "a", "b"),), (("fields", "a"),),
            (["field", "a"],), (("field", ["a"]),), (("field", ("a",)),), (("field", {}),), (("field", None),), (("field", True),), (("field", 0),),
            ((),), (((),),), (0,), (1,), (True,), (None,), ([],), ({},), ("field", "a"), (("a", "field"),), (("a",),), ("a", "field"),
            (ITEMS, ITEMS), (ITEMS, A), (ITEMS, ()), (ITEMS, None), (A, ITEMS, ITEMS), (A, A), (A, B), (B, ITEMS), (B, ""), (A, ITEMS, 0), (ITEMS, 0),
        ]:
            if place != ():
                self.refused(NoPath, form_at, form, place)
                self.refused(NoPath, form_at, (NO,), place)
                self.refused(NoPath, form_at, (), place)
        self.refused(NoPath, form_at, (table(1, 1, SMALLS, NO),), (("field", "a"),))
        self.refused(NoPath, form_at, (table(1, 1, SMALLS, NO),), (("values", "a"),))
        self.refused(NoPath, form_at, (table(1, 1, SMALLS, NO),), (ITEMS,))
        self.refused(NoPath, form_at, (record(0, 0),), (VALUES,))
        self.refused(NoPath, form_at, (record(1, 1, must("a", NO)),), (VALUES,))

    def test_a_pool(self):
        for form in FORMS + thrown_forms(8, 40):
            places = self.ask(places_in, form)
            self.assertEqual(places[0], ())
            self.assertEqual(len(places), len(set(places)))
            for place in places:
                inner = form_at(form, place)
                self.assertIs(is_form(inner), True)
                self.assertEqual([place + further for further in places_in(inner)], [other for other in places if other[:len(place)] == place])
                for step in (ITEMS, VALUES, A, B):
                    if place + (step,) not in places:
                        self.refused(NoPath, form_at, form, place + (step,))


class Changes(Asking):
    def hold(self, old, new, *expected):
        """old and new are forms or single parts, expected what is told from old to new."""
        old, new = as_form(old), as_form(new)
        for form in (old, new):
            self.assertIs(is_form(form), True, form)
        self.assertEqual(model_changes(old, new), list(expected), f"{old} {new}")
        self.told(list(expected), changes, old, new)
        found = self.ask(breaks, old, new)
        self.assertIs(type(found), tuple)
        self.assertEqual(len(found), 2)
        self.assertEqual(found, (parted(old, new), parted(new, old)))

    def both(self, old, new, *expected):
        """hold, and the other way about with the ways turned; then the same within lists, fields and tables."""
        turned = {"come": "gone", "gone": "come", "wider": "narrower", "narrower": "wider", "other": "other"}
        back = [(place, kind, turned[way]) for place, kind, way in expected]
        first, second = as_form(old), as_form(new)
        self.hold(first, second, *expected)
        self.hold(second, first, *back)
        if first == () or second == ():
            return
        for step, wrap in ((ITEMS, lambda form: lists(1, 2, *form)), (A, lambda form: record(1, 2, must("a", *form), may("c", NO))),
                           (B, lambda form: record(1, 1, may("a", NO), may("b", *form))), (VALUES, lambda form: table(1, 2, SMALLS, *form))):
            self.hold(wrap(first), wrap(second), *[((step,) + place, kind, way) for place, kind, way in expected])
            self.hold(lists(1, 2, wrap(second)), lists(1, 2, wrap(first)), *[((ITEMS, step) + place, kind, way) for place, kind, way in back])

    def test_nothing_where_equal(self):
        for form in FORMS:
            self.hold(form, form)

    def test_come_and_gone(self):
        parts = [NO, ("truths", (False, True)), NUMBERS, TEXTS, lists(0, 2, NO), record(1, 1, must("a", NO))]
        for kind, part in zip(KINDS, parts):
            self.both((), part, ((), kind, "come"))
            rest = tuple(other for other in parts if other != part)
            self.both(rest, tuple(parts), ((), kind, "come"))
        self.both((NO, NUMBERS), (NO, TEXTS), ((), "number", "gone"), ((), "text", "come"))
        self.both((NO,), (table(1, 1, SMALLS, NO),), ((), "nothing", "gone"), ((), "dict", "come"))
        self.both((), tuple(parts), *[((), kind, "come") for kind in KINDS])

    def test_leaves(self):
        for one, other in ((("truths", (True,)), ("truths", (False, True))), (("truths", (False,)), ("truths", (False, True)))):
            self.both(one, other, ((), "truth", "wider"))
        self.both(("truths", (True,)), ("truths", (False,)), ((), "truth", "other"))
        self.both(("numbers", 0, 4, 2), NUMBERS, ((), "number", "wider"))
        self.both(("numbers", 0, 8, 8), NUMBERS, ((), "number", "wider"))
        self.both(ONE, NUMBERS, ((), "number", "other"))
        self.both(("texts", few("a")), ("texts", few("a", "b")), ((), "text", "wider"))
        self.both(("texts", few("a", "b")), TEXTS, ((), "text", "wider"))
        self.both(("texts", few("a", "b1")), TEXTS, ((), "text", "other"))
        self.both(TEXTS, ("texts", make("", 1, 3, "small")), ((), "text", "wider"))
        self.both(TEXTS, ("texts", make("", 2, 3, "small")), ((), "text", "other"))
        self.both((NO, ONE, TEXTS), (NO, TWO, ("texts", few("a"))), ((), "number", "wider"), ((), "text", "narrower"))

    def test_lists(self):
        self.both(lists(1, 2, NO), lists(0, 2, NO), ((), "list", "wider"))
        self.both(lists(1, 2, NO), lists(1, 3, NO), ((), "list", "wider"))
        self.both(lists(1, 2, NO), lists(0, 3, NO), ((), "list", "wider"))
        self.both(lists(1, 2, NO), lists(0, 1, NO), ((), "list", "other"))
        self.both(lists(1, 2, NO), lists(3, 3, NO), ((), "list", "other"))
        self.both(lists(1, 2, NO), lists(1, 2, NO, ONE), ((ITEMS,), "number", "come"))
        self.both(lists(1, 2, NO), lists(1, 3, ONE), ((), "list", "wider"), ((ITEMS,), "nothing", "gone"), ((ITEMS,), "number", "come"))
        self.both(lists(0, 0), lists(0, 1, NO, ONE), ((), "list", "wider"), ((ITEMS,), "nothing", "come"), ((ITEMS,), "number", "come"))
        self.both(lists(0, 0), lists(1, 1, NO), ((), "list", "other"), ((ITEMS,), "nothing", "come"))
        self.both(lists(0, 3, NO, lists(0, 2, ONE)), lists(0, 4, lists(0, 3, TWO)), ((), "list", "wider"), ((ITEMS,), "nothing", "gone"),
                  ((ITEMS,), "list", "wider"), ((ITEMS, ITEMS), "number", "wider"))

    def test_a_list_that_comes_tells_nothing_within(self):
        self.both(NO, (NO, lists(0, 2, ONE)), ((), "list", "come"))
        self.both(NO, (NO, record(1, 1, must("a", ONE))), ((), "dict", "come"))
        self.both(NO, (NO, table(1, 1, SMALLS, ONE)), ((), "dict", "come"))

    def test_records(self):
        one = record(1, 2, must("a", ONE), may("b", ONE))
        self.both(one, record(1, 2, may("a", ONE), may("b", ONE)), ((), "dict", "wider"))
        self.both(one, record(2, 2, must("a", ONE), must("b", ONE)), ((), "dict", "narrower"))
        self.both(one, record(1, 2, may("a", ONE), must("b", ONE)), ((), "dict", "other"))
        self.both(one, record(1, 2, must("a", TWO), may("b", ONE)), ((A,), "number", "wider"))
        self.both(one, record(1, 2, must("a", TWO), may("b", NO)), ((A,), "number", "wider"), ((B,), "nothing", "come"), ((B,), "number", "gone"))
        self.both(record(1, 3, may("a", NO), may("b", NO), may("c", NO)), record(0, 3, may("a", NO), may("b", NO), may("c", NO)), ((), "dict", "wider"))
        self.both(record(1, 2, may("a", NO), may("b", NO), may("c", NO)), record(1, 3, may("a", NO), may("b", NO), may("c", NO)), ((), "dict", "wider"))
        self.both(record(1, 2, may("a", NO), may("b", NO), may("c", NO)), record(2, 3, may("a", NO), may("b", NO), may("c", NO)), ((), "dict", "other"))

    def test_fields_of_one_alone(self):
        one = record(1, 2, must("a", ONE), may("b", ONE))
        self.both(one, record(1, 1, must("a", ONE)), ((), "dict", "narrower"))
        self.both(one, record(1, 3, must("a", ONE), may("b", ONE), may("c", lists(0, 1, NO))), ((), "dict", "wider"))
        self.both(one, record(1, 2, must("a", TWO), may("c", NO)), ((), "dict", "other"), ((A,), "number", "wider"))
        self.both(one, record(2, 2, must("c", TWO), must("d", NO)), ((), "dict", "other"))
        self.both(record(0, 0), record(0, 1, may("a", NO)), ((), "dict", "wider"))
        self.both(record(0, 0), record(1, 1, must("a", NO)), ((), "dict", "other"))

    def test_a_record_and_a_table(self):
        one = record(1, 2, must("a", ONE), may("b", NO))
        self.both(one, table(1, 2, SMALLS, NO, ONE), ((), "dict", "wider"), ((A,), "nothing", "come"), ((B,), "number", "come"))
        self.both(one, table(1, 2, SMALLS, ONE), ((), "dict", "wider"), ((B,), "nothing", "gone"), ((B,), "number", "come"))
        self.both(one, table(2, 3, SMALLS, TWO), ((), "dict", "other"), ((A,), "number", "wider"), ((B,), "nothing", "gone"), ((B,), "number", "come"))
        self.both(one, table(1, 1, SMALLS, NO, ONE), ((), "dict", "other"), ((A,), "nothing", "come"), ((B,), "number", "come"))
        self.both(one, table(1, 2, FIGURES, NO, ONE), ((), "dict", "other"), ((A,), "nothing", "come"), ((B,), "number", "come"))
        self.both(record(1, 2, may("A", ONE), must("a", ONE)), table(1, 2, SMALLS, TWO), ((), "dict", "other"),
                  ((("field", "A"),), "number", "wider"), ((A,), "number", "wider"))
        self.both(record(1, 1, must("a", ONE)), table(0, 2, SMALLS, ONE), ((), "dict", "wider"))
        self.both(record(0, 0), table(0, 2, SMALLS, ONE), ((), "dict", "wider"))
        self.both(record(0, 0), table(1, 2, SMALLS, ONE), ((), "dict", "other"))
        self.both(record(1, 1, must("a", lists(0, 1, ONE))), table(1, 1, SMALLS, NO, lists(1, 1, TWO)), ((), "dict", "wider"),
                  ((A,), "nothing", "come"), ((A,), "list", "narrower"), ((A, ITEMS), "number", "wider"))

    def test_tables(self):
        one = table(2, 4, SMALLS, ONE)
        self.both(one, table(1, 4, SMALLS, ONE), ((), "dict", "wider"))
        self.both(one, table(2, 5, SMALLS, ONE), ((), "dict", "wider"))
        self.both(one, table(1, 3, SMALLS, ONE), ((), "dict", "other"))
        self.both(one, table(2, 4, make("", 0, 2, "small"), ONE), ((), "dict", "wider"))
        self.both(one, table(2, 4, make("", 0, 1, "small"), ONE), ((), "dict", "other"))
        self.both(one, table(2, 4, SMALLS, TWO), ((VALUES,), "number", "wider"))
        self.both(one, table(1, 5, make("", 0, 2, "small"), NO), ((), "dict", "wider"), ((VALUES,), "nothing", "come"), ((VALUES,), "number", "gone"))

    def test_the_order(self):
        inner = (NO, lists(0, 1, NO), record(1, 1, must("x", NO)))
        other = (ONE, lists(0, 2, ONE), record(1, 1, must("x", ONE)))
        here = [("nothing", "gone"), ("number", "come"), ("list", "wider")]
        deeper = [((), kind, way) for kind, way in here]
        deeper += [((ITEMS,), "nothing", "gone"), ((ITEMS,), "number", "come"), ((("field", "x"),), "nothing", "gone"), ((("field", "x"),), "number", "come")]
        self.hold(inner, other, *deeper)
        old = (lists(0, 1, *inner), record(2, 2, must("a", *inner), must("b", *inner)))
        new = (lists(0, 1, *other), record(2, 2, must("a", *other), must("b", *other)))
        self.hold(old, new, *[((step,) + place, kind, way) for step in (ITEMS, A, B) for place, kind, way in deeper])

    def test_a_pool(self):
        for old, new in itertools.product(FORMS, FORMS):
            self.seen(old, new)

    def test_thrown_forms(self):
        forms = thrown_forms(6, 24) + [told(thrown_row(seed, 1 + seed % 12, 2 + seed % 3)) for seed in range(16)]
        forms += [joined(forms[place], forms[-place]) for place in range(1, 6)] + [met(forms[place], forms[-place]) for place in range(1, 20)]
        for old, new in itertools.product(forms, forms):
            self.seen(old, new)

    def seen(self, old, new):
        found = changes(old, new)
        self.assertIs(type(found), list)
        self.assertEqual(found, model_changes(old, new), f"{old} {new}")
        self.assertEqual(found == [], old == new)
        ways = {way for _, _, way in found}
        self.assertEqual(not ways & {"gone", "narrower", "other"}, within(old, new), f"{old} {new} {found}")
        self.assertEqual(not ways & {"come", "wider", "other"}, within(new, old), f"{old} {new} {found}")
        self.assertEqual(len(found), len(set(found)))

    def test_forms_of_very_many_parts(self):
        old = deep_records("abcdefg", 7, 7, must, 4, NUMBERS)
        self.assertEqual(changes(old, old), [])
        found = changes(old, deep_records("abcdefg", 7, 7, must, 4, NO, NUMBERS))
        self.assertEqual(len(found), 7 ** 4)
        self.assertEqual({(len(place), kind, way) for place, kind, way in found}, {(4, "nothing", "come")})


class Breaks(Asking):
    def hold(self, old, new, writers, readers):
        old, new = as_form(old), as_form(new)
        found = self.ask(breaks, old, new)
        self.assertEqual([len(side) for side in found], [writers, readers], f"{old} {new}")
        for side, one, other in ((found[0], old, new), (found[1], new, old)):
            self.assertIs(type(side), tuple)
            for value in side:
                self.assertTrue(model_lets(one, value) and not model_lets(other, value))
        self.assertEqual(found, (parted(old, new), parted(new, old)))

    def test_none(self):
        for form in FORMS:
            self.hold(form, form, 0, 0)

    def test_writers_alone_readers_alone_and_both(self):
        for less, more in ((NO, (NO, ONE)), (ONE, TWO), (lists(1, 2, ONE), lists(0, 2, ONE)), (lists(1, 2, ONE), lists(1, 2, TWO)), ((), NO),
                           (record(1, 1, must("a", ONE)), record(1, 2, must("a", ONE), may("b", NO))), (record(0, 0), table(0, 1, SMALLS, NO)),
                           (table(1, 2, SMALLS, ONE), table(1, 3, SMALLS, ONE))):
            self.hold(less, more, 0, 1)
            self.hold(more, less, 1, 0)
        for one, other in ((NO, ONE), (lists(0, 1, NO), lists(1, 2, NO)), (record(1, 1, must("a", ONE)), record(1, 1, must("b", ONE))),
                           ((NO, ONE), (NO, TEXTS)), (record(1, 1, must("a", ONE)), table(1, 1, SMALLS, NO)), (lists(0, 1, ONE), lists(0, 2, NO))):
            self.hold(one, other, 1, 1)
            self.hold(other, one, 1, 1)

    def test_thrown_forms(self):
        forms = [thrown_form(Dice(seed), 3) for seed in range(20)]
        for old, new in itertools.product(forms, forms):
            self.hold(old, new, int(not model_within(old, new)), int(not model_within(new, old)))

    def test_nothing_stands_twice_and_nothing_is_kept(self):
        old, new = (lists(2, 3, record(1, 1, must("a", lists(0, 0)))),), (lists(4, 5, record(1, 1, must("a", lists(0, 1, NO)))),)
        found = breaks(old, new)
        before = repr(found)
        self.assertEqual(len(boxes(found)), len({id(box) for box in boxes(found)}))
        spoil(found)
        self.assertEqual(repr(breaks(old, new)), before)


class ByName(unittest.TestCase):
    def test_arguments_have_the_interface_s_names(self):
        self.assertEqual(places_in(form=()), [()])
        self.assertEqual(form_at(form=(NO,), place=()), (NO,))
        self.assertEqual(changes(old=(), new=(NO,)), [((), "nothing", "come")])
        self.assertEqual(breaks(old=(), new=(NO,)), ((), (None,)))


if __name__ == "__main__":
    unittest.main()
