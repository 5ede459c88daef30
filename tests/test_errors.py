import unittest

from sandline.errors import NoBoard, NoDoor, NoDrawing, NoSign, SandError


class Errors(unittest.TestCase):
    def test_any_refusal_is_a_value_error(self):
        self.assertEqual(SandError.__bases__, (ValueError,))

    def test_each_refusal_stands_straight_under_sand_error(self):
        for refusal in (NoBoard, NoDoor, NoSign, NoDrawing):
            with self.subTest(refusal=refusal.__name__):
                self.assertEqual(refusal.__bases__, (SandError,))

    def test_the_refusals_are_four(self):
        self.assertEqual(len({NoBoard, NoDoor, NoSign, NoDrawing}), 4)


if __name__ == "__main__":
    unittest.main()
