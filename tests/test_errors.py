import unittest

from gapshelf.errors import BadBounds, BadDisk, Full, NoKey, NoRow, NoText, ShelfError

REFUSALS = (Full, NoKey, BadBounds, BadDisk, NoText, NoRow)


class ErrorsTest(unittest.TestCase):
    def test_any_refusal_is_a_value_error(self):
        self.assertTrue(issubclass(ShelfError, ValueError))

    def test_each_refusal_stands_straight_under_shelf_error(self):
        for refusal in REFUSALS:
            with self.subTest(refusal=refusal.__name__):
                self.assertEqual(refusal.__bases__, (ShelfError,))

    def test_no_refusal_stands_under_another_one(self):
        for refusal in REFUSALS:
            for other in REFUSALS:
                if refusal is not other:
                    with self.subTest(refusal=refusal.__name__, other=other.__name__):
                        self.assertFalse(issubclass(refusal, other))

    def test_names(self):
        names = [refusal.__name__ for refusal in REFUSALS]
        self.assertEqual(names, ["Full", "NoKey", "BadBounds", "BadDisk", "NoText", "NoRow"])
        self.assertEqual(ShelfError.__name__, "ShelfError")

    def test_each_can_be_raised_with_words_of_its_own(self):
        for refusal in REFUSALS:
            with self.subTest(refusal=refusal.__name__):
                with self.assertRaises(ShelfError) as caught:
                    raise refusal("some words")
                self.assertEqual(str(caught.exception), "some words")
                self.assertIs(caught.exception.__class__, refusal)


if __name__ == "__main__":
    unittest.main()
