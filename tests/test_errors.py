"""The error classes of the interface."""

import unittest

from towbarges import errors


class Errors(unittest.TestCase):
    def test_any_refusal_is_straight_under_value_error(self):
        self.assertEqual(errors.TowError.__bases__, (ValueError,))

    def test_each_error_is_straight_under_the_refusal(self):
        for name in ("BadBook", "BadPlan", "NoPlan", "Gone", "BadText"):
            with self.subTest(name):
                self.assertEqual(getattr(errors, name).__bases__, (errors.TowError,))

    def test_no_plan_keeps_its_table(self):
        for table in (("done",), ("cases", 0, ()), ("cases", 1, ((3, ("done",)),))):
            told = errors.NoPlan(table)
            self.assertIs(told.table, table)
            self.assertIsInstance(str(told), str)

    def test_each_no_plan_has_a_table_of_its_own(self):
        one, other = errors.NoPlan(("done",)), errors.NoPlan(("cases", 0, ()))
        self.assertEqual((one.table, other.table), (("done",), ("cases", 0, ())))

    def test_errors_of_one_kind_are_not_caught_as_another(self):
        with self.assertRaises(errors.BadPlan):
            try:
                raise errors.BadPlan("no plan")
            except (errors.BadBook, errors.NoPlan, errors.Gone, errors.BadText):
                self.fail("caught as another error")


if __name__ == "__main__":
    unittest.main()
