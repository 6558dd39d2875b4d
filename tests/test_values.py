"""Points 2, 3, 4, 6 and 7: values, their kinds, parts and paths."""

import unittest

from leastform.errors import NoPath
from leastform.values import (
    copied, deep_in, is_value, kind_of, parts_in, paths_in, same, value_at, with_value,
)
from tests.helper import Asking, anything, boxes, shown, spoil

SIGNS = "".join(chr(code) for code in range(32, 127) if code != 37)
GREAT = 10 ** 59 + 7


def deep(levels):
    value = 1
    for level in range(levels - 1):
        value = [value] if level % 2 else {"n": value}
    return value


def some_values():
    """Values made anew, no two of them the same."""
    return [
        None, False, True, 0, 1, -1, 2, GREAT, -GREAT, "", " ", "0", "1", "a", "A", "None", "True", "nothing",
        [], [None], [False], [True], [0], [1], ["1"], [[]], [{}], [1, 2], [2, 1], [1, 1], [1, True], [True, 1],
        [[1], [2]], [[1, 2]], [[True, 2]], [1, [2]], [[], []], [[], {}],
        {}, {"": None}, {"a": None}, {"a": 0}, {"a": False}, {"a": 1}, {"a": True}, {"a": "1"}, {"b": 1}, {"A": 1},
        {"a": 1, "b": 2}, {"a": 2, "b": 1}, {"a": []}, {"a": {}}, {"a": [1]}, {"a": [True]}, {"a": {"b": 1}},
        {"a": {"b": True}}, {"a": [{"b": [0]}]}, {"a": [{"b": [False]}]}, {"0": [1], "1": [[2]], "": {}},
        deep(8), SIGNS[:60], SIGNS[60:],
    ]


class IsValue(Asking):
    def test_values(self):
        for value in some_values():
            self.told(True, is_value, value)

    def test_each_sign(self):
        for code in range(0, 300):
            sign = chr(code)
            is_one = sign in SIGNS
            for thing in (sign, f"a{sign}", f"{sign}b", [sign], {"a": sign}, {sign: 1}, [{f"x{sign}y": None}]):
                self.told(is_one, is_value, thing)

    def test_what_is_none(self):
        for thing in anything():
            self.told(False, is_value, thing)

    def test_what_is_none_within_lists_and_dicts(self):
        for thing in anything():
            for around in ([thing], [1, thing], [thing, 1], {"a": thing}, {"a": 1, "b": thing}, {"b": thing, "c": 1},
                           [[thing]], [{"a": thing}], {"a": [thing]}, {"a": {"b": thing}}):
                self.told(False, is_value, around)

    def test_tuples_are_none_whatever_they_hold(self):
        for value in some_values():
            self.told(False, is_value, (value,))
            self.told(False, is_value, [(value,)])
            self.told(False, is_value, {"a": (value, value)})

    def test_keys_that_are_no_texts(self):
        for key in (0, 1, True, None, (), ("a",), "\n", "%", "\t", "a%b", -GREAT):
            self.told(False, is_value, {key: 1})
            self.told(False, is_value, {"a": 1, key: 1})
            self.told(False, is_value, [{"b": {key: []}}])

    def test_bounds_are_not_looked_at(self):
        number = 10 ** 70 - 1
        for thing in (number, -number, "a" * 100, "a" * 61, {"n" * 100: number}, [number] * 999, deep(12), deep(13),
                      {str(place): place for place in range(900)}, [["a" * 100] * 30 for _ in range(30)]):
            self.told(True, is_value, thing)
        self.told(False, is_value, "a" * 99 + "\n")
        self.told(False, is_value, [0] * 900 + [()])

    def test_a_list_at_several_places_is_a_value(self):
        part = [1]
        self.told(True, is_value, [part, part, {"a": part}])

    def test_asked_again_behind_a_change(self):
        thing = [1, {"a": []}]
        self.told(True, is_value, thing)
        thing[1]["a"].append(())
        self.told(False, is_value, thing)


class Kinds(Asking):
    def test_kinds(self):
        for kind, values in (
            ("nothing", [None]),
            ("truth", [False, True]),
            ("number", [0, 1, -1, GREAT, -GREAT]),
            ("text", ["", "0", "None", "True", " "]),
            ("list", [[], [1], [None], [[]], [{}], ["a"]]),
            ("dict", [{}, {"a": 1}, {"": []}]),
        ):
            for value in values:
                self.told(kind, kind_of, value)


class Same(Asking):
    def test_each_is_the_same_as_itself_and_no_other(self):
        ones, others = some_values(), some_values()
        for place, one in enumerate(ones):
            for elsewhere, other in enumerate(others):
                self.assertIs(same(one, other), place == elsewhere, f"{one!r} {other!r}")

    def test_numbers_are_no_truths(self):
        for one, other in ((1, True), (0, False), ([1], [True]), ([0], [False]), ({"a": 1}, {"a": True}),
                           ([[0]], [[False]]), ({"a": [{"b": 0}]}, {"a": [{"b": False}]}),
                           ([1, 2, True], [1, 2, 1])):
            self.told(False, same, one, other)
            self.told(False, same, other, one)

    def test_the_order_of_names_says_nothing(self):
        one = {"a": 1, "b": {"x": [], "y": None}, "c": 3}
        other = {"c": 3, "b": {"y": None, "x": []}, "a": 1}
        self.told(True, same, one, other)
        self.told(True, same, [one], [other])
        other["b"]["x"].append(0)
        self.told(False, same, one, other)

    def test_the_order_of_items_counts(self):
        self.told(False, same, [1, 2], [2, 1])
        self.told(False, same, {"a": [1, 2]}, {"a": [2, 1]})

    def test_more_or_other_parts(self):
        for one, other in (([1], [1, 1]), ([], [None]), ({}, {"a": None}), ({"a": 1}, {"a": 1, "b": 1}),
                           ({"a": 1}, {"b": 1}), ({"a": None}, {"b": None}), ([], {}), ("", []), (None, False),
                           (None, []), (0, None), (0, ""), ("1", 1), ({"a": 1, "b": 2}, {"a": 1, "c": 2})):
            self.told(False, same, one, other)
            self.told(False, same, other, one)

    def test_one_and_the_same_thing(self):
        part = [1, True]
        self.told(True, same, part, part)
        self.told(True, same, [part, part], [[1, True], [1, True]])
        self.told(False, same, [part, part], [[1, True], [True, 1]])

    def test_great_numbers_and_long_texts(self):
        self.told(True, same, [GREAT, "a" * 60], [10 ** 59 + 7, "a" * 60])
        self.told(False, same, GREAT, GREAT + 1)
        self.told(False, same, "a" * 60, "a" * 59)


class Copied(Asking):
    def test_the_same_value(self):
        for value in some_values():
            self.told(value, copied, value)

    def test_lists_and_dicts_at_several_places_come_apart(self):
        part, record = [1, []], {"a": [2]}
        value = {"x": part, "y": [part, record, record], "z": {"x": part}}
        told = self.ask(copied, value)
        self.assertEqual(shown(told), shown(value))
        found = [id(box) for box in boxes(told)]
        self.assertEqual(len(found), len(set(found)))
        told["x"].append(5)
        self.assertEqual(shown(told["y"]), shown([[1, []], {"a": [2]}, {"a": [2]}]))
        told["y"][1]["b"] = 1
        self.assertEqual(shown(told["y"][2]), shown({"a": [2]}))

    def test_empty_lists_and_dicts_come_apart_too(self):
        hollow, bare = [], {}
        told = self.ask(copied, [hollow, hollow, bare, bare])
        told[0].append(1)
        told[2]["a"] = 1
        self.assertEqual(shown(told), shown([[1], [], {"a": 1}, {}]))

    def test_changes_on_either_side_leave_the_other(self):
        for value in some_values():
            before = shown(value)
            told = copied(value)
            spoil(told)
            self.assertEqual(shown(value), before)
            told = copied(value)
            spoil(value)
            self.assertEqual(shown(told), before)

    def test_asked_again_behind_a_change_of_what_was_handed_in(self):
        value = [1]
        self.told([1], copied, value)
        value.append({"a": True})
        self.told([1, {"a": True}], copied, value)


class PartsAndDepth(Asking):
    def test_leaves(self):
        for value in (None, False, True, 0, GREAT, "", "many signs"):
            self.told(1, parts_in, value)
            self.told(1, deep_in, value)

    def test_lists_and_dicts(self):
        part = [1, 2]
        for value, parts, depth in (
            ([], 1, 1), ({}, 1, 1), ([1], 2, 2), ({"a": 1}, 2, 2), ([[]], 2, 2), ([{}], 2, 2), ({"a": []}, 2, 2),
            ([1, 2, 3], 4, 2), ({"a": 1, "b": 2}, 3, 2), ([[1], 2], 4, 3), ([2, [1]], 4, 3), ([[], [[]]], 4, 3),
            ({"a": {"b": {"c": None}}, "d": 1}, 5, 4), ({"d": 1, "a": {"b": {}}}, 4, 3),
            ([[1, 2], [3, [4, 5]], "six"], 10, 4), ([part, part, part], 10, 3), ({"a": part, "b": [part]}, 8, 4),
            (deep(8), 8, 8), ([0] * 499, 500, 2), ([[]] * 7 + [[[[0]]]], 12, 5),
        ):
            self.told(parts, parts_in, value)
            self.told(depth, deep_in, value)


class Paths(Asking):
    def test_the_order_of_paths(self):
        for value, paths in (
            (None, [()]), (7, [()]), ("ab", [()]), ([], [()]), ({}, [()]),
            ([5, 6], [(), (0,), (1,)]),
            ([[5, 6], 7], [(), (0,), (0, 0), (0, 1), (1,)]),
            ({"b": 1, "a": 2}, [(), ("a",), ("b",)]),
            ({"b": [1, 2], "a": {"z": 0, "y": []}, "": None, "B": [[]]},
             [(), ("",), ("B",), ("B", 0), ("a",), ("a", "y"), ("a", "z"), ("b",), ("b", 0), ("b", 1)]),
            ({"9": 1, "10": 2, "~": 3, " ": 4, "Z": 5, "a": 6},
             [(), (" ",), ("10",), ("9",), ("Z",), ("a",), ("~",)]),
            ([{"a": [1]}, [{"b": 2}]], [(), (0,), (0, "a"), (0, "a", 0), (1,), (1, 0), (1, 0, "b")]),
        ):
            self.told(paths, paths_in, value)

    def test_more_than_ten_items_stand_as_they_count(self):
        self.told([()] + [(place,) for place in range(12)], paths_in, [0] * 12)

    def test_the_order_of_names_handed_in_says_nothing(self):
        one = {"a": {"c": 1, "d": 2}, "b": 3}
        other = {"b": 3, "a": {"d": 2, "c": 1}}
        self.assertEqual(paths_in(one), paths_in(other))

    def test_as_many_as_parts_and_all_unlike(self):
        for value in some_values():
            paths = self.ask(paths_in, value)
            self.assertEqual(len(paths), parts_in(value))
            self.assertEqual(len(set(paths)), len(paths))
            self.assertEqual(max(len(path) for path in paths) + 1, deep_in(value))


def standing(value, path):
    for step in path:
        value = value[step]
    return value


NO_PATHS_AT_ALL = (
    None, 0, 1, -1, True, False, "", "a", "0", [], [0], ["a"], [()], {}, {"a": 1}, {0: 1}, GREAT,
)
STEPS_NEVER = (
    True, False, None, -1, -2, GREAT, -GREAT, (), (0,), ("a",), [], [0], ["a"], {}, {"a": 1}, {0: 0},
    "no such name", "\n", "%",
)


class ValueAt(Asking):
    def test_every_path(self):
        for value in some_values():
            for path in paths_in(value):
                self.told(standing(value, path), value_at, value, path)

    def test_by_hand(self):
        value = {"a": [10, {"b": "x", "": None}], "0": True}
        for path, part in (((), value), (("a",), value["a"]), (("a", 0), 10), (("a", 1), {"b": "x", "": None}),
                           (("a", 1, "b"), "x"), (("a", 1, ""), None), (("0",), True)):
            self.told(part, value_at, value, path)

    def test_what_is_told_shares_nothing(self):
        part = [1]
        value = {"a": [part, part], "b": part}
        told = self.ask(value_at, value, ("a",))
        told[0].append(2)
        self.assertEqual(shown(told), shown([[1, 2], [1]]))
        self.assertEqual(shown(value), shown({"a": [[1], [1]], "b": [1]}))
        told = value_at(value, ("b",))
        part.append(3)
        self.assertEqual(told, [1])
        self.told([1, 3], value_at, value, ("b",))


class NoPaths(Asking):
    def none(self, value, path):
        self.refused(NoPath, value_at, value, path)
        self.refused(NoPath, with_value, value, path, 5)
        self.refused(NoPath, with_value, value, path, [value])

    def test_what_is_no_tuple(self):
        for value in (None, 1, "a", [], [[1], 2], {}, {"a": 1, "": [0]}):
            for path in NO_PATHS_AT_ALL:
                self.none(value, path)

    def test_steps_that_lead_nowhere(self):
        for value in (None, True, 3, "abc", "", [], [[1], 2], {}, {"a": [1], "": 0, "0": 1}):
            for step in STEPS_NEVER:
                self.none(value, (step,))

    def test_steps_that_lead_nowhere_behind_others(self):
        value = {"a": [[1, "b"], {"c": {}}]}
        for path in paths_in(value):
            for step in STEPS_NEVER:
                self.none(value, path + (step,))
                self.none(value, (step,) + path)

    def test_places_at_the_ends(self):
        for many in (0, 1, 2, 12):
            value = list(range(many))
            for place in (-many - 1, -1, many, many + 1):
                self.none(value, (place,))
            if many:
                self.none(value, (-many,))
                self.told(0, value_at, value, (0,))
                self.told(many - 1, value_at, value, (many - 1,))

    def test_truths_are_no_numbers(self):
        for value in ([5, 6], [[5], [6]]):
            self.none(value, (True,))
            self.none(value, (False,))
        self.none([[1, 2], [3, 4]], (0, True))
        self.none([[1, 2], [3, 4]], (True, 0))

    def test_texts_in_lists_and_numbers_in_dicts(self):
        self.none([1, 2], ("0",))
        self.none([1, 2], ("",))
        self.none(["a"], ("a",))
        self.none({"0": 1, "1": 2}, (0,))
        self.none({"0": 1, "1": 2}, (1,))
        self.none({"a": 1}, (0,))
        self.none({"True": 1}, (True,))

    def test_names_that_are_not_there(self):
        for name in ("b", "A", "", " a", "a ", "aa"):
            self.none({"a": 1}, (name,))
        self.none({}, ("a",))
        self.none({}, ("",))

    def test_steps_into_a_leaf(self):
        for leaf in (None, False, True, 0, 1, GREAT, "", "abc", "0"):
            for step in (0, 1, "a", "", "0", "abc"):
                self.none(leaf, (step,))
                self.none([leaf], (0, step))
                self.none({"a": leaf}, ("a", step))

    def test_paths_as_lists_within(self):
        self.none([[1]], [0])
        self.none([[1]], [0, 0])
        self.none([[1]], ((0, 0),))
        self.none({"a": [1]}, ["a", 0])
        self.none({"a": [1]}, (("a", 0),))
        self.none({"a": [1]}, "a")


class WithValue(Asking):
    def test_every_path(self):
        others = [None, True, 1, "t", [], {"n": [1]}]
        for value in some_values():
            paths = paths_in(value)
            for path in paths:
                for other in others:
                    told = self.ask(with_value, value, path, other)
                    self.assertIs(is_value(told), True)
                    self.assertEqual(shown(standing(told, path)), shown(other))
                    for elsewhere in paths:
                        if elsewhere[:len(path)] != path and path[:len(elsewhere)] != elsewhere:
                            self.assertEqual(shown(standing(told, elsewhere)), shown(standing(value, elsewhere)))
                    self.assertEqual(shown(with_value(told, path, standing(value, path))), shown(value))

    def test_by_hand(self):
        value = {"a": [1, 2], "b": {"c": 3}}
        for path, other, told in (
            ((), [], []),
            (("a",), None, {"a": None, "b": {"c": 3}}),
            (("a", 0), True, {"a": [True, 2], "b": {"c": 3}}),
            (("a", 1), {"d": []}, {"a": [1, {"d": []}], "b": {"c": 3}}),
            (("b", "c"), [4, 5], {"a": [1, 2], "b": {"c": [4, 5]}}),
            (("b",), 0, {"a": [1, 2], "b": 0}),
        ):
            self.told(told, with_value, value, path, other)

    def test_a_value_put_into_itself(self):
        value = {"a": [1], "b": [2]}
        self.told({"a": [{"a": [1], "b": [2]}], "b": [2]}, with_value, value, ("a", 0), value)
        self.told({"a": [1], "b": [1]}, with_value, value, ("b",), value["a"])
        self.told(value, with_value, value, (), value)

    def test_only_the_one_place_changes_where_a_list_stands_at_several(self):
        part = [1]
        self.told([[2], [1], [1]], with_value, [part, part, part], (0, 0), 2)
        record = {"a": part}
        self.told({"x": {"a": [1]}, "y": {"a": 0}}, with_value, {"x": record, "y": record}, ("y", "a"), 0)

    def test_what_is_told_shares_nothing(self):
        value, other = {"a": [1], "b": [[2]]}, {"c": [3]}
        told = with_value(value, ("a", 0), other)
        before = shown(told)
        spoil(value)
        spoil(other)
        self.assertEqual(shown(told), before)

    def test_a_name_or_place_that_is_not_there_is_not_put_in(self):
        self.refused(NoPath, with_value, {"a": 1}, ("b",), 2)
        self.refused(NoPath, with_value, [1], (1,), 2)
        self.refused(NoPath, with_value, [1], (-1,), 2)
        self.refused(NoPath, with_value, [], (0,), 2)


class ByName(unittest.TestCase):
    def test_arguments_have_the_interface_s_names(self):
        self.assertIs(is_value(thing=[1]), True)
        self.assertEqual(kind_of(value=1), "number")
        self.assertIs(same(one=1, other=True), False)
        self.assertEqual(copied(value=[1]), [1])
        self.assertEqual(parts_in(value=[1]), 2)
        self.assertEqual(deep_in(value=[1]), 2)
        self.assertEqual(paths_in(value=[1]), [(), (0,)])
        self.assertEqual(value_at(value=[1], path=(0,)), 1)
        self.assertEqual(with_value(value=[1], path=(0,), other=2), [2])


if __name__ == "__main__":
    unittest.main()
