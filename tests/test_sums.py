"""Sums of unknown words, which papers are checked with, against rows of words."""

import itertools
import math
import random
import unittest

from flowkeep.spans import contains, form
from flowkeep.sums import may_be_zero, rest_of, summed, take_in, transposed, unknown_sum, word_of, word_sum

WIDTH = 5


def row_of(one):
    """Return the sum as a row of words."""
    return tuple(dict(one).get(place, 0) for place in range(WIDTH))


def random_sum(chance):
    words = (0, 0, 0, 1, 2, 3, 4, 6, 256, 32768, 65535, chance.randrange(65536))
    return tuple((place, word) for place, word in enumerate(chance.choice(words) for _ in range(WIDTH)) if word)


class SumsTest(unittest.TestCase):
    def test_sums_of_sums(self):
        chance = random.Random(1)
        for _ in range(200):
            parts = [(random_sum(chance), chance.randrange(-5, 70000)) for _ in range(chance.randrange(4))]
            expected = [0] * WIDTH
            for one, factor in parts:
                expected = [(mine + factor * its) % 65536 for mine, its in zip(expected, row_of(one))]
            found = summed(parts)
            self.assertEqual(row_of(found), tuple(expected))
            self.assertEqual(found, tuple(sorted(found)))
            self.assertTrue(all(number for _, number in found))

    def test_words(self):
        for word in (0, 1, 5, 65535):
            self.assertEqual(word_of(word_sum(word)), word)
        for one in (unknown_sum(1), ((0, 1), (1, 1)), ((3, 32768),)):
            self.assertIsNone(word_of(one))

    def test_sums_that_may_be_0(self):
        for base, factors in itertools.product((0, 1, 2, 3, 4, 8, 32768), ((), (1,), (2,), (4, 6), (8,), (32768,), (65535,))):
            one = tuple((place, number) for place, number in enumerate((base,) + factors) if number)
            # Sums of multiples of numbers are the multiples of what divides them all.
            self.assertIs(may_be_zero(one), base % math.gcd(65536, *factors) == 0, one)

    def test_rows_and_columns(self):
        self.assertEqual(transposed({0: ((0, 1),), 2: ((0, 3), (1, 4)), 5: ()}), {0: ((0, 1), (2, 3)), 1: ((2, 4),)})


class SpansTest(unittest.TestCase):
    def test_spans(self):
        chance = random.Random(2)
        for _ in range(300):
            sums = [random_sum(chance) for _ in range(chance.randrange(1, 6))]
            found, rows = {}, ()
            for one in sums:
                self.assertIs(take_in(found, one), not contains(rows, WIDTH, row_of(one)))
                rows += (row_of(one),)
                self.assertIs(take_in(found, one), False)
            self.assertEqual(form(tuple(row_of(one) for one in found.values()), WIDTH), form(rows, WIDTH))
            for place, one in found.items():
                self.assertEqual(one[0][0], place)
                self.assertEqual(65536 % one[0][1], 0)
            for _ in range(5):
                other = summed([(one, chance.choice((0, 1, 2, 65535))) for one in sums] + [(random_sum(chance), chance.randrange(2))])
                self.assertIs(rest_of(found, other) == (), contains(rows, WIDTH, row_of(other)))


if __name__ == "__main__":
    unittest.main()
