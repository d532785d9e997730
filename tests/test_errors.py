"""The errors of the interface (point 2 and the section "The interface")."""

import unittest

from sparewatts.errors import BadJournal, BadText, Refused, TooFast, WattsError

NAMED = {"line": (BadText, BadJournal), "reason": (Refused,), "index": (TooFast,)}
RAISED = (BadText, BadJournal, Refused, TooFast)


class ErrorsTest(unittest.TestCase):
    def test_the_base_class_is_a_value_error(self):
        self.assertTrue(issubclass(WattsError, ValueError))

    def test_each_error_derives_from_the_base_class_only(self):
        for kind in RAISED:
            self.assertEqual(kind.__bases__, (WattsError,))

    def test_none_is_a_base_class_of_another_one(self):
        for kind in RAISED:
            for other in RAISED:
                self.assertEqual(issubclass(kind, other), kind is other)

    def test_lines_are_set_when_the_object_is_created(self):
        self.assertEqual(BadText(7).line, 7)
        self.assertEqual(BadJournal(1).line, 1)

    def test_reason_and_index_are_set_when_the_object_is_created(self):
        self.assertEqual(Refused("full").reason, "full")
        self.assertEqual(Refused("name").reason, "name")
        self.assertEqual(TooFast(0).index, 0)
        self.assertEqual(TooFast(4).index, 4)

    def test_each_error_has_its_own_attribute_only(self):
        for name, kinds in NAMED.items():
            for kind in RAISED:
                self.assertEqual(hasattr(kind(3), name), kind in kinds)

    def test_all_are_caught_by_the_base_class(self):
        for kind in RAISED:
            with self.assertRaises(WattsError):
                raise kind(3)


if __name__ == "__main__":
    unittest.main()
