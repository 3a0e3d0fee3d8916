"""Promises [2], [8] and [9]: peermend.counting."""

import unittest
from math import comb, factorial

from helpers import FAR_PAIRS_64, FREE_64, PAIRS_64, Case, all_images, all_repairable, all_states
from peermend import counting
from peermend.counting import count_images, count_states, image_at, image_number
from peermend.errors import InvalidImage, InvalidNumber, Unrepairable
from peermend.pieces import is_repairable, pieces, torn_pieces

SIZES = list(range(17)) + [23, 32, 33, 47, 63, 64]


def keys_of(image):
    """The keys of an image, as [9] words them."""
    keys = []
    for _, records in pieces(image):
        group = tuple(sorted(records))
        keys.append((len(group), group, tuple(image[record] for record in group)))
    return keys


def states_by_pairs(size):
    """Choose the number of pairs, then the records in them, then who is with whom."""
    return sum(factorial(size) // (factorial(pairs) * 2 ** pairs * factorial(size - 2 * pairs))
               for pairs in range(size // 2 + 1))


def images_by_pieces(size, torn):
    """Choose how many torn pieces have two, three and four records, then fill them."""
    total = 0
    for fours in range(torn + 1):
        for threes in range(torn + 1 - fours):
            twos = torn - fours - threes
            inside = 4 * fours + 3 * threes + 2 * twos
            if inside <= size:
                ways = factorial(inside) // (
                    factorial(4) ** fours * factorial(3) ** threes * factorial(2) ** twos
                    * factorial(fours) * factorial(threes) * factorial(twos))
                ways *= 42 ** fours * 12 ** threes * 2 ** twos
                total += comb(size, inside) * ways * states_by_pairs(size - inside)
    return total


class Interface(Case):

    def test_each_function_is_defined_in_its_file(self):
        self.assert_defined(counting, "count_images", "count_states", "image_number", "image_at")

    def test_torn_is_passed_by_keyword(self):
        with self.assertRaises(TypeError):
            count_images(4, 1)


class Counts(Case):

    def test_against_all_small_images(self):
        for size in range(6):
            found = [len(torn_pieces(image)) for image in all_repairable(size)]
            self.assertEqual(count_images(size), len(found))
            self.assertEqual(count_images(size, torn=None), len(found))
            for torn in range(-2, size + 3):
                self.assertEqual(count_images(size, torn=torn), found.count(torn), (size, torn))
            self.assertEqual(count_states(size), len(all_states(size)))

    def test_numbers(self):
        self.assertEqual([count_states(size) for size in range(10)],
                         [1, 1, 2, 4, 10, 26, 76, 232, 764, 2620])
        self.assertEqual([count_images(size) for size in range(8)],
                         [1, 1, 4, 22, 136, 856, 7216, 65584])
        self.assertEqual([count_images(4, torn=torn) for torn in range(4)], [10, 114, 12, 0])

    def test_sizes_below_zero(self):
        for size in range(-5, 0):
            for torn in (None, -2, -1, 0, 1, 2):
                self.assertEqual(count_images(size, torn=torn), 0)
            self.assertEqual(count_images(size), 0)
            self.assertEqual(count_states(size), 0)
            for number in (-10 ** 20, -1, 0, 1, 10 ** 20):
                self.assert_error(InvalidNumber(number), image_at, size, number)

    def test_all_sizes_by_choosing_the_pieces(self):
        for size in SIZES:
            self.assertEqual(count_states(size), states_by_pairs(size))
            by_torn = [images_by_pieces(size, torn) for torn in range(size // 2 + 1)]
            self.assertEqual(count_images(size), sum(by_torn))
            for torn, number in enumerate(by_torn):
                self.assertEqual(count_images(size, torn=torn), number, (size, torn))

    def test_torn_out_of_range(self):
        for size in (0, 1, 2, 5, 6, 63, 64):
            for torn in (-1, -2, -64, -10 ** 20, size // 2 + 1, size + 1, 64, 10 ** 20):
                self.assertEqual(count_images(size, torn=torn), 0, (size, torn))
            self.assertGreater(count_images(size, torn=size // 2), 0)
            self.assertEqual(count_images(size, torn=0), count_states(size))

    def test_somewhat_beyond_the_largest_size(self):
        self.assertEqual(count_states(80), states_by_pairs(80))
        self.assertEqual(count_images(70, torn=20), images_by_pieces(70, 20))


class Numbers(Case):

    def test_the_example(self):
        self.assertEqual([image_at(2, number) for number in range(4)],
                         [[0, 1], [0, 0], [1, 0], [1, 1]])
        self.assertEqual([image_number(image) for image in ([0, 1], [0, 0], [1, 0], [1, 1])],
                         [0, 1, 2, 3])

    def test_all_numbers_of_small_sizes(self):
        for size in range(6):
            for number, image in enumerate(sorted(all_repairable(size), key=keys_of)):
                self.assert_list(image_at(size, number), image)
                self.assertEqual(image_number(image), number)

    def test_all_numbers_of_size_6(self):
        before = None
        for number in range(count_images(6)):
            image = image_at(6, number)
            keys = keys_of(image)
            self.assertTrue(before is None or before < keys, number)
            self.assertEqual(image_number(image), number)
            before = keys

    def test_forth_and_back_for_large_sizes(self):
        for size in (7, 16, 33, 63, 64):
            many = count_images(size)
            places = {0, 1, 2, many - 1, many - 2}
            places.update(many * step // 41 for step in range(41))
            places.update(many * 7 ** step // 7 ** 40 for step in range(40))
            before = None
            for number in sorted(places):
                image = image_at(size, number)
                self.assertEqual(len(image), size)
                self.assertTrue(is_repairable(image))
                self.assertEqual(image_number(image), number)
                keys = keys_of(image)
                self.assertTrue(before is None or before < keys, (size, number))
                before = keys

    def test_neighbours_for_large_sizes(self):
        for size in (16, 64):
            for place in range(1, 30):
                number = count_images(size) * place // 30
                row = [image_at(size, number + step) for step in range(8)]
                self.assertEqual(sorted(row, key=keys_of), row)
                self.assertEqual([image_number(image) for image in row],
                                 [number + step for step in range(8)])

    def test_first_and_last(self):
        self.assertEqual(image_number([]), 0)
        self.assertEqual(image_at(0, 0), [])
        self.assertEqual(image_at(1, 0), [0])
        self.assertEqual(image_number(FREE_64), 0)
        self.assertEqual(image_at(64, 0), FREE_64)
        # A first piece of four records with the greatest others, over and over.
        last = list(range(64))
        left = list(range(64))
        while left:
            group = [left[0]] + left[-3:]
            for record, place in zip(group, (3, 3, 1, 1)):
                last[record] = group[place]
            left = left[1:-3]
        self.assertEqual(image_number(last), count_images(64) - 1)
        self.assertEqual(image_at(64, count_images(64) - 1), last)

    def test_images_with_many_pieces_forth_and_back(self):
        claims = [record | 1 for record in range(64)]
        wheels = [record - 3 if record % 4 == 3 else record + 1 for record in range(64)]
        mixed = [1, 0, 0] + [3] + [5, 6, 6] + list(range(7, 60)) + [63, 62, 61, 60]
        for image in (PAIRS_64, FAR_PAIRS_64, claims, wheels, mixed):
            self.assertEqual(image_at(64, image_number(image)), image)

    def test_invalid_numbers(self):
        for size in (0, 1, 2, 3, 7, 63, 64):
            many = count_images(size)
            for number in (-1, -2, many, many + 1, 3 * many, -many, 10 ** 200, -10 ** 200):
                self.assert_error(InvalidNumber(number), image_at, size, number)
            self.assertEqual(image_number(image_at(size, many - 1)), many - 1)

    def test_unrepairable_images_and_bad_entries(self):
        for size in range(5):
            for image in all_images(size):
                if not is_repairable(image):
                    with self.assertRaises(Unrepairable):
                        image_number(image)
        self.assert_error(Unrepairable([1, 2, 4]), image_number, [0, 2, 4, 3, 1])
        self.assert_error(Unrepairable([0, 1, 3]), image_number, [1, 3, 2, 0, 5, 6, 4])
        self.assert_error(InvalidImage(3), image_number, [1, 2, 0, 4])
        self.assert_error(InvalidImage(0), image_number, [-1, 0, 0, 0])
        self.assert_error(InvalidImage(63), image_number, [1, 2, 0] + FREE_64[3:63] + [64])

    def test_arguments_and_results_stay_apart(self):
        image = [1, 0, 0, 3, 3]
        given = list(image)
        number = image_number(given)
        self.assertEqual(given, image)
        found = image_at(5, number)
        found[0] = 4
        found.append(5)
        self.assertEqual(image_at(5, number), image)
        bad = [1, 2, 0, 3]
        with self.assertRaises(Unrepairable):
            image_number(bad)
        self.assertEqual(bad, [1, 2, 0, 3])


if __name__ == "__main__":
    unittest.main()
