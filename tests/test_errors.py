"""Points 6 and 14: the sixteen refusals."""

import unittest

from noughtcut import errors
from noughtcut.errors import CutError
from tests.things import deep_list, strange_things

FIELDS = {
    "NoNumber": "found",
    "NoNet": "found",
    "NoNode": "found",
    "NoWire": "found",
    "NoSpot": "found",
    "NoBox": "found",
    "NoWish": "found",
    "NoAim": "found",
    "NoOut": "found",
    "NoPattern": "found",
    "NoFit": "found",
    "NoTree": "found",
    "NoName": "found",
    "NoText": "row",
    "Large": "many",
    "NoLine": "line",
}


class RefusalTest(unittest.TestCase):
    def test_there_are_sixteen_and_no_others(self):
        self.assertEqual(len(FIELDS), 16)
        kept = [name for name, thing in vars(errors).items() if isinstance(thing, type)]
        self.assertEqual(sorted(kept), sorted(list(FIELDS) + ["CutError"]))

    def test_cut_error_stands_under_value_error(self):
        self.assertEqual(CutError.__bases__, (ValueError,))

    def test_each_stands_straight_under_cut_error(self):
        for name in FIELDS:
            with self.subTest(name=name):
                self.assertEqual(getattr(errors, name).__bases__, (CutError,))

    def test_each_is_of_no_other_class(self):
        for name in FIELDS:
            error = getattr(errors, name)(3)
            self.assertIsInstance(error, CutError)
            self.assertIsInstance(error, ValueError)
            for other in FIELDS:
                with self.subTest(name=name, other=other):
                    self.assertEqual(isinstance(error, getattr(errors, other)), name == other)

    def test_each_is_caught_as_itself_as_cut_error_and_as_value_error(self):
        for name in FIELDS:
            own = getattr(errors, name)
            for kind in (own, CutError, ValueError):
                with self.subTest(name=name, kind=kind):
                    with self.assertRaises(kind):
                        raise own("thing")


class FieldTest(unittest.TestCase):
    def test_the_field_is_the_very_thing(self):
        for name, field in FIELDS.items():
            for thing in strange_things() + [7, -10 ** 400, "text\nof rows", (1, 2), ((0, 1), (1, 1))]:
                with self.subTest(name=name, thing=repr(thing)[:60]):
                    self.assertIs(getattr(getattr(errors, name)(thing), field), thing)

    def test_a_list_is_not_copied(self):
        for name, field in FIELDS.items():
            with self.subTest(name=name):
                thing = [1, [2]]
                error = getattr(errors, name)(thing)
                thing.append(3)
                thing[1].append(4)
                self.assertIs(getattr(error, field), thing)
                self.assertEqual(getattr(error, field), [1, [2, 4], 3])

    def test_a_dict_is_not_copied(self):
        for name, field in FIELDS.items():
            with self.subTest(name=name):
                thing = {}
                error = getattr(errors, name)(thing)
                thing["a"] = 1
                self.assertIs(getattr(error, field), thing)
                self.assertEqual(getattr(error, field), {"a": 1})

    def test_no_other_field_of_the_interface_is_there(self):
        for name, field in FIELDS.items():
            with self.subTest(name=name):
                self.assertEqual(list(vars(getattr(errors, name)(5))), [field])

    def test_two_of_a_class_keep_their_own_things(self):
        for name, field in FIELDS.items():
            with self.subTest(name=name):
                one, other = getattr(errors, name)([1]), getattr(errors, name)([2])
                self.assertEqual(getattr(one, field), [1])
                self.assertEqual(getattr(other, field), [2])

    def test_each_is_made_of_one_thing(self):
        for name in FIELDS:
            with self.subTest(name=name):
                with self.assertRaises(TypeError):
                    getattr(errors, name)()
                with self.assertRaises(TypeError):
                    getattr(errors, name)(1, 2)

    def test_each_is_raised_with_its_thing(self):
        thing = deep_list(20)
        for name, field in FIELDS.items():
            with self.subTest(name=name):
                with self.assertRaises(CutError) as caught:
                    raise getattr(errors, name)(thing)
                self.assertIs(getattr(caught.exception, field), thing)

    def test_each_has_a_text_whatever_it_keeps(self):
        for name in FIELDS:
            for thing in (10 ** 5000, deep_list(20), None, "100%", "{0}"):
                with self.subTest(name=name):
                    self.assertIsInstance(str(getattr(errors, name)(thing)), str)


class CutErrorTest(unittest.TestCase):
    def test_it_is_made_of_one_text(self):
        self.assertEqual(str(CutError("what went wrong")), "what went wrong")
        self.assertEqual(str(CutError("")), "")
        with self.assertRaises(TypeError):
            CutError()
        with self.assertRaises(TypeError):
            CutError("one", "other")

    def test_it_is_none_of_the_refusals(self):
        for name in FIELDS:
            with self.subTest(name=name):
                self.assertNotIsInstance(CutError("text"), getattr(errors, name))


if __name__ == "__main__":
    unittest.main()
