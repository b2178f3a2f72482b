"""[3]: the errors."""

import unittest

from lastshown import errors

PLAIN = ("NoPrices", "NoDoors", "NotRight", "NothingToUndo")
FIELDS = {
    "NoRule": "door", "NoDoor": "door", "NoDeed": "index", "NoItem": "index", "NoLine": "index", "Missing": "item",
    "NoText": "line",
}
VALUES = (0, 7, "put", None, True, [], {}, (1, [2]), 10 ** 6000, object(), "\ud800")


class TestErrors(unittest.TestCase):
    def test_the_base_is_a_value_error_that_takes_a_string(self):
        self.assertEqual(errors.ShownError.__bases__, (ValueError,))
        self.assertEqual(str(errors.ShownError("why")), "why")

    def test_each_error_is_a_direct_subclass_of_the_base(self):
        for name in (*PLAIN, *FIELDS):
            self.assertEqual(getattr(errors, name).__bases__, (errors.ShownError,), name)

    def test_errors_without_fields_take_one_string(self):
        for name in PLAIN:
            self.assertEqual(str(getattr(errors, name)("why")), "why", name)

    def test_fields_are_stored_under_their_names_whatever_they_are(self):
        for name, field in FIELDS.items():
            for value in VALUES:
                self.assertIs(getattr(getattr(errors, name)(value), field), value, name)

    def test_fields_can_be_passed_by_name(self):
        for name, field in FIELDS.items():
            self.assertEqual(getattr(getattr(errors, name)(**{field: 3}), field), 3, name)

    def test_fields_are_needed(self):
        for name in FIELDS:
            for wrong in ((), (1, 2)):
                with self.assertRaises(TypeError):
                    getattr(errors, name)(*wrong)


if __name__ == "__main__":
    unittest.main()
