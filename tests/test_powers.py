from unittest import TestCase

from pairfloors.powers import power


class Power(TestCase):
    def test_small_powers(self):
        self.assertEqual([power(2, n) for n in range(5)], [1, 2, 4, 8, 16])
        self.assertEqual([power(6, n) for n in range(4)], [1, 6, 36, 216])
        self.assertEqual([power(1, n) for n in (0, 1, 40)], [1, 1, 1])

    def test_nothing_to_the_power_of_nothing(self):
        self.assertEqual([power(0, n) for n in range(3)], [1, 0, 0])

    def test_all_powers_up_to_the_limits(self):
        for base in range(7):
            for exponent in range(65):
                self.assertEqual(power(base, exponent), base ** exponent)
