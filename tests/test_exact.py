import unittest
from itertools import product

from coverjoin.exact import _bounded_power, _bounded_product, _is_above, power, root_below, sign_of
from helper import LAST, Dice, powers_of


class TestPowersAndRoots(unittest.TestCase):

    def test_powers(self):
        for base, exponent in product((0, 1, 2, 3, 10, LAST), range(12)):
            self.assertEqual(power(base, exponent), base ** exponent)
        self.assertEqual(power(LAST, 999), LAST ** 999)

    def test_roots(self):
        dice = Dice(4)
        for number in range(300):
            for degree in range(1, 12):
                root = root_below(number, degree)
                self.assertTrue(root ** degree <= number < (root + 1) ** degree)
        for _ in range(400):
            degree = 2 + dice.below(40)
            root = dice.below(2 ** 31) ** (1 + dice.below(9))
            self.assertEqual(root_below(root ** degree, degree), root)
            self.assertEqual(root_below((root + 1) ** degree - 1, degree), root)

    def test_roots_of_great_powers(self):
        number = LAST ** 999 * (LAST - 2) ** 998
        for degree in (2, 3, 16, 17, 100, 998, 999):
            root = root_below(number, degree)
            self.assertTrue(root ** degree <= number < (root + 1) ** degree)


class TestSignOf(unittest.TestCase):

    def plain(self, bases, exponents):
        over = powers_of(bases, [max(0, e) for e in exponents])
        under = powers_of(bases, [max(0, -e) for e in exponents])
        return (over > under) - (over < under)

    def test_small_ones(self):
        for bases in product((1, 2, 3, 4, 6, 8), repeat=3):
            for exponents in product((-2, -1, 0, 1, 3), repeat=3):
                self.assertEqual(sign_of(bases, exponents), self.plain(bases, exponents))

    def test_equal_ones(self):
        self.assertEqual(sign_of((4, 8), (999 * 999, -666 * 999)), 0)
        self.assertEqual(sign_of((6, 10, 15, 30), (999, 999, 999, -1998)), 0)
        self.assertEqual(sign_of((), ()), 0)

    def test_nearly_alike(self):
        for shift in range(1, 40):
            one, two, three = LAST - shift, LAST - shift - 1, LAST - shift - 2
            self.assertEqual(sign_of((one, two, three), (1, -2, 1)), -1)
            self.assertEqual(sign_of((one, two, three), (-999, 1998, -999)), 1)
        # Powers of 2 and 3, the nearest ones to each other, on either side.
        for two, three, sign in ((8, 5, 1), (19, 12, -1), (84, 53, -1), (485, 306, 1), (1054, 665, -1)):
            self.assertEqual(sign_of((2, 3), (two, -three)), sign)
            self.assertEqual(self.plain((2, 3), (two, -three)), sign)
            self.assertEqual(sign_of((2, 3), (-two * 400, three * 400)), -sign)
        dice = Dice(3)
        for _ in range(60):
            bases = [LAST - dice.below(9) for _ in range(4)]
            exponents = [dice.below(400) - 200 for _ in range(4)]
            self.assertEqual(sign_of(bases, exponents), self.plain(bases, exponents))

    def test_ranges_have_what_they_stand_for(self):
        for bits in (4, 9, 64):
            for base, exponent in product((2, 3, 10, 97, LAST), range(1, 40)):
                low, high, shift = _bounded_power(base, exponent, bits)
                self.assertTrue(low << shift <= base ** exponent <= high << shift)
                self.assertLessEqual(high.bit_length(), bits + 1)
                low, high, shift = _bounded_product([(base, exponent), (7, 5)], bits)
                self.assertTrue(low << shift <= base ** exponent * 7 ** 5 <= high << shift)

    def test_ranges_are_compared(self):
        for low, high in product((1, 2, 3, 4, 7, 8, 9), repeat=2):
            for one, other in product((0, 1, 2, 3, 50), repeat=2):
                self.assertIs(_is_above((low, 99, one), (1, high, other)), low << one > high << other)
        self.assertIs(_is_above((0, 1, 10 ** 6), (1, 1, 0)), False)
        self.assertIs(_is_above((1, 1, 10 ** 17), (1, 2 ** 70, 10 ** 16)), True)
        self.assertIs(_is_above((1, 1, 10 ** 16), (1, 2 ** 70, 10 ** 17)), False)


if __name__ == "__main__":
    unittest.main()
