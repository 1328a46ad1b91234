"""Point 6 and the interface of markwords/errors.py."""

import unittest

from markwords import errors
from tests.worths import REFUSALS


class Errors(unittest.TestCase):
    def test_word_error_is_a_value_error(self):
        self.assertTrue(issubclass(errors.WordError, ValueError))
        self.assertIsNot(errors.WordError, ValueError)

    def test_each_is_a_word_error_and_none_stands_under_another(self):
        for one in REFUSALS:
            self.assertTrue(issubclass(one, errors.WordError))
            self.assertIsNot(one, errors.WordError)
            self.assertEqual([other for other in REFUSALS if issubclass(one, other)], [one])

    def test_wrong_kind_has_its_part(self):
        for part in (1, 2):
            self.assertEqual(errors.WrongKind(part).part, part)

    def test_faulty_has_its_word_and_k(self):
        for word, k in (("laying", 0), ("head", 8), ("address", 407)):
            error = errors.Faulty(word, k)
            self.assertEqual((error.word, error.k), (word, k))

    def test_each_is_raised_and_taken_by_name(self):
        for one, parts in (
            (errors.WrongKind, (1,)), (errors.Nought, ()), (errors.NoRoom, ()),
            (errors.Faulty, ("end", 9)), (errors.NoText, ()), (errors.NotFormed, ()),
        ):
            for taker in (one, errors.WordError, ValueError):
                with self.assertRaises(taker):
                    raise one(*parts)

    def test_two_errors_keep_their_own_fields(self):
        one, other = errors.WrongKind(1), errors.WrongKind(2)
        self.assertEqual((one.part, other.part), (1, 2))


if __name__ == "__main__":
    unittest.main()
