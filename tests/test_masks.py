import unittest
from itertools import combinations

from coverjoin.masks import fewest_bits, least_masks, lots_of_masks, most_apart
from helper import Dice


def bits(mask):
    return bin(mask).count("1")


def plain_fewest(masks, width):
    return min(bits(taken) for taken in range(1 << width) if all(taken & mask for mask in masks))


def plain_most(masks):
    """How many masks there can be without a common bit, by going through all lots of them."""
    best = 0

    def go(k, used, count):
        nonlocal best
        best = max(best, count)
        for j in range(k, len(masks)):
            if not masks[j] & used:
                go(j + 1, used | masks[j], count + 1)
    go(0, 0, 0)
    return best


def some_masks(many, width, most, seed):
    dice = Dice(seed)
    for _ in range(many):
        yield [1 + dice.below((1 << width) - 1) & ~dice.below(1 << width) or 1 for _ in range(dice.below(most + 1))]


def thin_masks(many, width, most, seed):
    """Masks of two or three bits each."""
    dice = Dice(seed)
    for _ in range(many):
        found = []
        while len(found) < most:
            mask = 0
            while bits(mask) < 2 + dice.below(2):
                mask |= 1 << dice.below(width)
            found.append(mask)
        yield found


class TestMasks(unittest.TestCase):

    def test_by_going_through_all(self):
        unlike = 0
        lists = [masks for width, most, many in ((3, 6, 200), (6, 10, 300), (9, 14, 200))
                 for masks in some_masks(many, width, most, width)]
        lists += [masks for width in range(6, 12) for masks in thin_masks(60, width, 2 * width, width)]
        for masks in lists:
            with self.subTest(masks=masks):
                taken, apart = fewest_bits(masks), most_apart(masks)
                self.assertTrue(all(taken & mask for mask in masks))
                self.assertEqual(bits(taken), plain_fewest(masks, 11))
                self.assertTrue(all(mask in masks for mask in apart))
                self.assertTrue(all(not one & other for one, other in combinations(apart, 2)))
                self.assertEqual(len(apart), plain_most(masks))
                unlike += bits(taken) != len(apart)
        self.assertGreater(unlike, 10)

    def test_lists_side_by_side(self):
        lists = list(thin_masks(40, 9, 14, 3))
        for one, other in zip(lists, lists[1:]):
            both = [mask for pair in zip(one, [mask << 9 for mask in other]) for mask in pair]
            taken, apart = fewest_bits(both), most_apart(both)
            self.assertTrue(all(taken & mask for mask in both))
            self.assertEqual(bits(taken), plain_fewest(one, 9) + plain_fewest(other, 9))
            self.assertTrue(all(not left & right for left, right in combinations(apart, 2)))
            self.assertEqual(len(apart), plain_most(one) + plain_most(other))

    def test_rings_of_pairs(self):
        for width in range(3, 41):
            masks = [(1 << k) | (1 << (k + 1) % width) for k in range(width)]
            self.assertEqual(bits(fewest_bits(masks)), (width + 1) // 2)
            self.assertEqual(len(most_apart(masks)), width // 2)

    def test_all_pairs(self):
        masks = [(1 << j) | (1 << k) for k in range(12) for j in range(k)]
        self.assertEqual((bits(fewest_bits(masks)), len(most_apart(masks))), (11, 6))

    def test_none_and_one(self):
        self.assertEqual((fewest_bits([]), most_apart([])), (0, []))
        self.assertEqual((bits(fewest_bits([6])), most_apart([6])), (1, [6]))

    def test_least_masks_and_lots(self):
        self.assertEqual(least_masks([7, 6, 1, 3, 1, 12]), [1, 6, 12])
        self.assertEqual(sorted(sorted(lot) for lot in lots_of_masks([1, 6, 12, 16, 48])), [[1], [6, 12], [16, 48]])


if __name__ == "__main__":
    unittest.main()
