"""Tests of nearpool.errors: the classes of refusals, points [2] and the interface."""

import unittest

from nearpool.errors import BadCells, BadText, PoolError


class ErrorsTest(unittest.TestCase):
    def test_pool_error_stands_straight_under_value_error(self):
        self.assertEqual(PoolError.__bases__, (ValueError,))

    def test_refusals_stand_straight_under_pool_error(self):
        self.assertEqual(BadCells.__bases__, (PoolError,))
        self.assertEqual(BadText.__bases__, (PoolError,))

    def test_no_refusal_stands_under_another(self):
        self.assertFalse(issubclass(BadCells, BadText))
        self.assertFalse(issubclass(BadText, BadCells))

    def test_bad_cells_is_made_with_words(self):
        with self.assertRaises(PoolError) as kept:
            raise BadCells("no laying of rows")
        self.assertIs(type(kept.exception), BadCells)
        self.assertEqual(str(kept.exception), "no laying of rows")

    def test_bad_text_has_the_row_it_was_made_with(self):
        for row in (0, 1, 599, 600):
            with self.assertRaises(ValueError) as kept:
                raise BadText(row)
            self.assertIs(type(kept.exception), BadText)
            self.assertEqual(kept.exception.row, row)

    def test_each_bad_text_has_its_own_row(self):
        first, second = BadText(3), BadText(4)
        self.assertEqual((first.row, second.row), (3, 4))


if __name__ == "__main__":
    unittest.main()
