"""Points 2.1 and 4: words."""

import unittest

from flowkeep.errors import FlowError, InvalidNumber, NotOdd
from flowkeep.words import inverse, twos, wrapped
from tests.samples import no_words, oddities


class WrappedTest(unittest.TestCase):
    def test_example(self):
        self.assertEqual(wrapped(-1), 65535)

    def test_words_stay(self):
        for number in range(65536):
            self.assertEqual(wrapped(number), number)

    def test_edges(self):
        cases = [
            (0, 0), (65535, 65535), (65536, 0), (65537, 1), (131071, 65535), (131072, 0), (-65535, 1), (-65536, 0),
            (-65537, 65535), (10 ** 12, 4096), (10 ** 12 - 1, 4095), (-10 ** 12, 61440), (-10 ** 12 + 1, 61441),
        ]
        for number, word in cases:
            self.assertEqual(wrapped(number), word, number)

    def test_it_is_the_remainder(self):
        for number in range(-10 ** 12, 10 ** 12, 7654321987):
            word = wrapped(number)
            self.assertTrue(0 <= word <= 65535)
            self.assertEqual((number - word) % 65536, 0, number)

    def test_far_numbers(self):
        for number in (10 ** 12 + 1, -10 ** 12 - 1, 10 ** 13, 10 ** 5000, -10 ** 5000):
            with self.assertRaises(InvalidNumber):
                wrapped(number)

    def test_wrong_kinds(self):
        for value in oddities() + [()]:
            with self.assertRaises(InvalidNumber, msg=repr(value)):
                wrapped(value)

    def test_the_answer_is_an_integer(self):
        self.assertIs(type(wrapped(65537)), int)


class TwosTest(unittest.TestCase):
    def test_example(self):
        self.assertEqual(twos(48), 4)

    def test_zero(self):
        self.assertEqual(twos(0), 16)

    def test_every_word(self):
        for number in range(1, 65536):
            count = twos(number)
            self.assertEqual(number % 2 ** count, 0)
            self.assertEqual(number // 2 ** count % 2, 1)

    def test_edges(self):
        for number, count in ((1, 0), (2, 1), (32768, 15), (65534, 1), (65535, 0), (49152, 14)):
            self.assertEqual(twos(number), count)

    def test_wrong_numbers(self):
        for value in no_words():
            with self.assertRaises(InvalidNumber):
                twos(value)


class InverseTest(unittest.TestCase):
    def test_example(self):
        self.assertEqual(inverse(3), 43691)

    def test_every_odd_word(self):
        for number in range(1, 65536, 2):
            found = inverse(number)
            self.assertTrue(0 <= found <= 65535)
            self.assertEqual(number * found % 65536, 1, number)

    def test_even_words(self):
        for number in (0, 2, 4, 32768, 65534, 1000):
            with self.assertRaises(NotOdd):
                inverse(number)

    def test_wrong_numbers(self):
        for value in no_words():
            with self.assertRaises(InvalidNumber):
                inverse(value)

    def test_numbers_that_are_no_words_are_not_told_to_be_even(self):
        for number in (65536, -2, 65537, -1):
            with self.assertRaises(InvalidNumber):
                inverse(number)

    def test_the_errors_are_flow_errors(self):
        with self.assertRaises(FlowError):
            inverse(2)
        with self.assertRaises(ValueError):
            inverse(None)


if __name__ == "__main__":
    unittest.main()
