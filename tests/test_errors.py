import unittest

from scriptpicks import errors
from scriptpicks.errors import PickError

FIELDS = {
    "Wrong": "place", "NoRow": "at", "BadStep": "index", "NoStep": "index", "NotPicked": "number",
    "Stuck": None, "Stopped": "index", "Closed": None, "BadEdit": "index", "Unlike": None, "HasPlace": "index",
    "TooMany": "most", "Nothing": None, "NoDeed": None, "Full": "limit", "Refused": "deed", "NoEntry": "many",
    "NoText": None, "NoCommand": None,
}


class ErrorsTest(unittest.TestCase):
    def test_pick_error_is_a_value_error(self):
        self.assertTrue(issubclass(PickError, ValueError))
        self.assertEqual(PickError.__bases__, (ValueError,))
        with self.assertRaises(ValueError):
            raise PickError()

    def test_each_error_stands_directly_under_pick_error(self):
        for name in FIELDS:
            with self.subTest(name):
                self.assertEqual(getattr(errors, name).__bases__, (PickError,))

    def test_fields_are_the_very_objects(self):
        things = [0, -1, 10 ** 59, True, None, "", "a", [], [1, [2]], {"a": []}, (), ([],), set(), object(), ValueError]
        for name, field in FIELDS.items():
            for thing in things if field else []:
                with self.subTest(name, thing=thing):
                    error = getattr(errors, name)(thing)
                    self.assertIs(getattr(error, field), thing)

    def test_fields_take_keywords(self):
        for name, field in FIELDS.items():
            if field:
                with self.subTest(name):
                    thing = ["x"]
                    self.assertIs(getattr(getattr(errors, name)(**{field: thing}), field), thing)

    def test_fields_stay_with_the_object(self):
        thing = [1]
        error = errors.Refused(thing)
        thing.append(2)
        self.assertEqual(error.deed, [1, 2])
        self.assertEqual(errors.Refused(thing).deed, [1, 2])
        other = errors.Refused([3])
        self.assertEqual((error.deed, other.deed), ([1, 2], [3]))

    def test_errors_without_arguments(self):
        for name, field in FIELDS.items():
            if field is None:
                with self.subTest(name):
                    self.assertIsInstance(getattr(errors, name)(), PickError)

    def test_each_can_be_raised_and_caught(self):
        for name, field in FIELDS.items():
            with self.subTest(name):
                kind = getattr(errors, name)
                with self.assertRaises(PickError) as caught:
                    raise kind(7) if field else kind()
                self.assertIs(caught.exception.__class__, kind)
                if field:
                    self.assertEqual(getattr(caught.exception, field), 7)
