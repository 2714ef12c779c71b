"""Integers whose bits tell what is meant."""

import random
import unittest

from lastprices.base.masks import numbers_in, ones_in, unions_of


class MasksTest(unittest.TestCase):
    def test_bits_of_masks(self):
        told = random.Random(7)
        for width in (0, 1, 2, 7, 8, 9, 40, 300, 4096):
            for many in (0, 1, 2, width // 16, width // 8, width // 2, width):
                numbers = sorted(told.sample(range(width), min(many, width)))
                mask = sum(1 << number for number in numbers)
                self.assertEqual([ones_in(mask), numbers_in(mask)], [len(numbers), numbers])

    def test_unions(self):
        self.assertEqual(unions_of([]), [0])
        self.assertEqual(unions_of([5]), [0, 5])
        self.assertEqual(unions_of([1, 2, 6]), [0, 1, 2, 3, 6, 7, 6, 7])
        masks = [1, 8, 8, 0, 48, 33]
        unions = unions_of(masks)
        self.assertEqual(len(unions), 64)
        for number, union in enumerate(unions):
            self.assertEqual(union, sum({1 << bit for at in numbers_in(number) for bit in numbers_in(masks[at])}))
        self.assertEqual(masks, [1, 8, 8, 0, 48, 33])
