"""Counter to number."""

import unittest

from fragmentbuilder.counters import counter_of, number_for


class Counters(unittest.TestCase):
    def test_the_rest_of_the_division_by_sixteen(self):
        self.assertEqual([counter_of(a) for a in (1, 15, 16, 17, 32, 60)], [1, 15, 0, 1, 0, 12])

    def test_each_of_the_sixteen_that_end_with_the_top(self):
        for top in range(0, 100):
            for counter in range(16):
                fitting = [a for a in range(top - 15, top + 1) if a >= 1 and a % 16 == counter]
                self.assertEqual(number_for(counter, top), fitting[0] if fitting else 0)

    def test_none(self):
        self.assertEqual(number_for(0, 15), 0)
        self.assertEqual(number_for(0, 16), 16)
        self.assertEqual(number_for(9, 8), 0)
        self.assertEqual(number_for(8, 8), 8)
