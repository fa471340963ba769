"""[2] and the interface: the refusals' classes and their fields."""

import unittest

from speechloom.errors import BadRow, BadTongue, BadTree, SpeechError

REFUSALS = (BadTongue, BadTree, BadRow)


class Fields(unittest.TestCase):
    def test_a_bad_tongue_tells_why(self):
        self.assertEqual(BadTongue(("stem", 3)).why, ("stem", 3))
        self.assertEqual(BadTongue(("start", 0)).why, ("start", 0))

    def test_a_bad_tree_tells_its_path(self):
        self.assertEqual(BadTree(()).path, ())
        self.assertEqual(BadTree((0,)).path, (0,))
        self.assertEqual(BadTree((2, 0, 1)).path, (2, 0, 1))

    def test_a_bad_row_tells_its_row(self):
        self.assertEqual(BadRow(0).row, 0)
        self.assertEqual(BadRow(17).row, 17)

    def test_two_refusals_keep_their_own_fields(self):
        one, other = BadRow(1), BadRow(2)
        self.assertEqual((one.row, other.row), (1, 2))

    def test_a_caught_refusal_has_its_field(self):
        with self.assertRaises(SpeechError) as held:
            raise BadTongue(("ring", 4))
        self.assertEqual(held.exception.why, ("ring", 4))

    def test_a_refusal_without_its_field_is_not_made(self):
        for refusal in REFUSALS:
            with self.assertRaises(TypeError):
                refusal()


class Standing(unittest.TestCase):
    def test_each_stands_straight_under_speech_error(self):
        for refusal in REFUSALS:
            self.assertEqual(refusal.__bases__, (SpeechError,))

    def test_speech_error_stands_straight_under_value_error(self):
        self.assertEqual(SpeechError.__bases__, (ValueError,))

    def test_none_stands_under_another_one(self):
        for one in REFUSALS:
            for other in REFUSALS:
                if one is not other:
                    self.assertFalse(issubclass(one, other))

    def test_speech_error_itself_is_made_with_words(self):
        self.assertIsInstance(SpeechError("no"), ValueError)

    def test_they_are_defined_in_their_file(self):
        for refusal in (SpeechError, *REFUSALS):
            self.assertEqual(refusal.__module__, "speechloom.errors")


if __name__ == "__main__":
    unittest.main()
