"""Promises [2] to [5]: peermend.images."""

import copy
import unittest
from itertools import product

from peermend import images
from peermend.errors import InvalidImage, NotState, UnequalSizes
from peermend.images import check_image, check_pair, check_state, groups, is_state

FREE_64 = list(range(64))
PAIRS_64 = [record ^ 1 for record in range(64)]
FAR_PAIRS_64 = [63 - record for record in range(64)]
CIRCLE_64 = [(record + 1) % 64 for record in range(64)]
CHAIN_64 = [max(record - 1, 0) for record in range(64)]
STAR_64 = [63] * 64

GOOD_STATES = ([], [0], [0, 1], [1, 0], [0, 2, 1], [2, 1, 0], [3, 2, 1, 0],
               FREE_64, PAIRS_64, FAR_PAIRS_64)
GOOD_IMAGES = GOOD_STATES + ([0, 0], [1, 1], [1, 2, 0], [1, 0, 0, 3, 3],
                             CIRCLE_64, CHAIN_64, STAR_64)

# (image, the first index whose entry is not a record of the table)
BAD_ENTRIES = (
    ([1], 0),
    ([-1], 0),
    ([0, -1], 1),
    ([0, 2], 1),
    ([0, -2], 1),
    ([1, 0, 3], 2),
    ([0, 10 ** 30, 2], 1),
    ([0, 1, -10 ** 30], 2),
    ([0, 4, -1, 99], 1),
    ([-1, -1, -1], 0),
    ([6, 0, 1, 2, 3, -7], 0),
    ([0, 0, 0, 4], 3),
    (FREE_64[:63] + [64], 63),
    (FREE_64[:63] + [-1], 63),
    (FREE_64[:40] + [-64] + FREE_64[41:], 40),
)

# (image, the first record that is not named by the record that it names)
NO_STATES = (
    ([0, 0], 1),
    ([1, 1], 0),
    ([1, 2, 0], 0),
    ([1, 0, 0], 2),
    ([0, 2, 2], 1),
    ([0, 1, 3, 3, 3], 2),
    ([1, 0, 3, 4, 2], 2),
    (CIRCLE_64, 0),
    (CHAIN_64, 1),
    (STAR_64, 0),
    (PAIRS_64[:63] + [63], 62),
    (FREE_64[:63] + [0], 63),
)


class Case(unittest.TestCase):

    def assert_invalid(self, record, function, *given):
        with self.assertRaises(InvalidImage) as caught:
            function(*given)
        self.assertEqual(caught.exception.record, record)

    def assert_not_state(self, record, function, *given):
        with self.assertRaises(NotState) as caught:
            function(*given)
        self.assertEqual(caught.exception.record, record)


class Interface(Case):

    def test_each_function_is_defined_in_its_file(self):
        for name in ("check_image", "is_state", "check_state", "check_pair", "groups"):
            with self.subTest(name):
                function = getattr(images, name)
                self.assertEqual((function.__module__, function.__name__),
                                 ("peermend.images", name))

    def test_no_call_changes_its_argument(self):
        for image in GOOD_STATES:
            given = copy.deepcopy(image)
            other = copy.deepcopy(image)
            for function in (check_image, is_state, check_state, groups):
                function(given)
            check_pair(given, other)
            self.assertEqual((given, other), (image, image))

    def test_a_call_that_raises_does_not_change_its_argument(self):
        for image, _ in BAD_ENTRIES + NO_STATES:
            given = list(image)
            for function in (check_image, is_state, check_state, groups):
                try:
                    function(given)
                except (InvalidImage, NotState):
                    pass
            for first, second in ((given, [0]), ([0], given)):
                with self.assertRaises((InvalidImage, NotState)):
                    check_pair(first, second)
            self.assertEqual(given, image)


class CheckImage(Case):

    def test_good_images_give_none(self):
        for image in GOOD_IMAGES:
            with self.subTest(image=image):
                self.assertIsNone(check_image(image))

    def test_the_first_bad_entry_counts(self):
        for image, record in BAD_ENTRIES:
            with self.subTest(image=image):
                self.assert_invalid(record, check_image, image)

    def test_each_place_and_each_bad_entry(self):
        for size in range(1, 6):
            for record in range(size):
                for entry in (-size - 1, -size, -1, size, size + 1, 64, -64):
                    if not 0 <= entry < size:
                        image = [0] * size
                        image[record] = entry
                        self.assert_invalid(record, check_image, image)

    def test_an_image_need_not_be_a_state(self):
        for image, _ in NO_STATES:
            self.assertIsNone(check_image(image))


class IsState(Case):

    def test_states(self):
        for image in GOOD_STATES:
            with self.subTest(image=image):
                self.assertIs(is_state(image), True)

    def test_images_that_are_no_states(self):
        for image, _ in NO_STATES:
            with self.subTest(image=image):
                self.assertIs(is_state(image), False)

    def test_bad_entries_come_first(self):
        for image, record in BAD_ENTRIES:
            with self.subTest(image=image):
                self.assert_invalid(record, is_state, image)
        self.assert_invalid(2, is_state, [1, 1, 3])

    def test_all_small_images(self):
        for size in range(5):
            for image in product(range(size), repeat=size):
                expected = all(image[image[record]] == record for record in range(size))
                self.assertIs(is_state(list(image)), expected)


class CheckState(Case):

    def test_states_give_none(self):
        for state in GOOD_STATES:
            with self.subTest(state=state):
                self.assertIsNone(check_state(state))

    def test_the_first_record_that_is_not_named_counts(self):
        for image, record in NO_STATES:
            with self.subTest(image=image):
                self.assert_not_state(record, check_state, image)

    def test_the_first_bad_entry_counts(self):
        for image, record in BAD_ENTRIES:
            with self.subTest(image=image):
                self.assert_invalid(record, check_state, image)

    def test_a_bad_entry_behind_a_record_that_is_not_named(self):
        self.assert_invalid(2, check_state, [1, 1, 3])
        self.assert_invalid(3, check_state, [1, 2, 0, -1])
        self.assert_invalid(1, check_state, [1, 5])
        self.assert_invalid(63, check_state, [1] * 63 + [64])


class CheckPair(Case):

    def test_good_pairs_give_none(self):
        for first in GOOD_STATES:
            for second in GOOD_STATES:
                if len(first) == len(second):
                    self.assertIsNone(check_pair(first, second))

    def test_unequal_sizes_alone(self):
        for first in GOOD_STATES:
            for second in GOOD_STATES:
                if len(first) != len(second):
                    with self.assertRaises(UnequalSizes):
                        check_pair(first, second)

    def test_a_fault_in_the_first_table(self):
        for second in ([0, 1, 2], [1, 0], []):
            self.assert_invalid(1, check_pair, [0, 3, 9], second)
            self.assert_not_state(1, check_pair, [0, 2, 0], second)
            self.assert_invalid(2, check_pair, [1, 1, -1], second)

    def test_a_fault_in_the_second_table(self):
        for first in ([0, 1, 2], [1, 0], []):
            self.assert_invalid(1, check_pair, first, [0, 3, 9])
            self.assert_not_state(1, check_pair, first, [0, 2, 0])
            self.assert_invalid(2, check_pair, first, [1, 1, -1])

    def test_faults_in_both_tables(self):
        self.assert_invalid(1, check_pair, [0, 2], [2, 0])
        self.assert_not_state(1, check_pair, [0, 0], [1, 1])
        self.assert_invalid(1, check_pair, [0, 2], [1, 1])
        # The first table is checked whole before the second one is looked at.
        self.assert_not_state(1, check_pair, [0, 0], [2, 0])

    def test_faults_in_both_tables_of_unequal_sizes(self):
        self.assert_invalid(1, check_pair, [0, 2], [3, 0, 0])
        self.assert_not_state(1, check_pair, [0, 0], [3, 0, 0])
        self.assert_not_state(0, check_pair, [1, 1], [0, 0, 2])
        self.assert_invalid(0, check_pair, [-1], [1, 1])

    def test_an_entry_counts_against_the_length_of_its_own_table(self):
        self.assert_invalid(1, check_pair, [0, 2], [0, 1, 2])
        self.assert_invalid(1, check_pair, [0, 1, 2], [0, 2])


class Groups(Case):

    def test_the_empty_image(self):
        self.assertEqual(groups([]), [])

    def test_records_alone(self):
        self.assertEqual(groups([0]), [[0]])
        self.assertEqual(groups([0, 1, 2]), [[0], [1], [2]])
        self.assertEqual(groups(FREE_64), [[record] for record in range(64)])

    def test_pairs(self):
        self.assertEqual(groups([1, 0]), [[0, 1]])
        self.assertEqual(groups(FAR_PAIRS_64), [[record, 63 - record] for record in range(32)])

    def test_a_record_that_another_one_shows_is_not_alone(self):
        self.assertEqual(groups([0, 0]), [[0, 1]])
        self.assertEqual(groups([1, 1]), [[0, 1]])
        self.assertEqual(groups([0, 2, 2]), [[0], [1, 2]])

    def test_64_records_in_one_group(self):
        shuffled = [(record * 37 + 11) % 64 for record in range(64)]
        long_circle = [0] * 64
        for place, record in enumerate(shuffled):
            long_circle[record] = shuffled[(place + 1) % 64]
        for image in (CIRCLE_64, CHAIN_64, STAR_64, long_circle):
            self.assertEqual(groups(image), [FREE_64])

    def test_a_chain_that_runs_upwards_and_one_that_jumps(self):
        self.assertEqual(groups(FREE_64[1:] + [63]), [FREE_64])
        jumps = [record + 2 if record < 62 else record for record in range(64)]
        self.assertEqual(groups(jumps), [FREE_64[0::2], FREE_64[1::2]])

    def test_a_chain_whose_links_meet_late(self):
        # Two halves grow by themselves and hang together only by the last record.
        image = [max(record - 2, record % 2) for record in range(63)] + [62]
        self.assertEqual(groups(image), [FREE_64[0::2] + [63], FREE_64[1:63:2]])
        image[0] = 1
        self.assertEqual(groups(image), [FREE_64])

    def test_groups_that_lie_among_each_other(self):
        for many in (2, 3, 4, 5, 7, 16, 31):
            image = [(record + many) if record + many < 64 else record % many
                     for record in range(64)]
            self.assertEqual(groups(image), [FREE_64[least::many] for least in range(many)])

    def test_the_order_is_that_of_the_least_records(self):
        self.assertEqual(groups([5, 3, 4, 1, 2, 5]), [[0, 5], [1, 3], [2, 4]])
        self.assertEqual(groups([6, 1, 5, 4, 4, 5, 3]), [[0, 3, 4, 6], [1], [2, 5]])

    def test_all_small_images(self):
        for size in range(6):
            for image in product(range(size), repeat=size):
                self.assertEqual(groups(list(image)), groups_by_definition(image))

    def test_the_first_bad_entry_counts(self):
        for image, record in BAD_ENTRIES:
            with self.subTest(image=image):
                self.assert_invalid(record, groups, image)

    def test_changing_what_was_returned_has_no_effect(self):
        image = [1, 0, 0, 3, 3]
        found = groups(image)
        found[0].append(9)
        found.pop()
        self.assertEqual(groups(image), [[0, 1, 2], [3, 4]])
        self.assertEqual(image, [1, 0, 0, 3, 3])


def groups_by_definition(image):
    size = len(image)
    together = {(x, y) for x in range(size) for y in range(size)
                if x == y or image[x] == y or image[y] == x}
    for z in range(size):
        for x in range(size):
            for y in range(size):
                if (x, z) in together and (z, y) in together:
                    together.add((x, y))
    found = [[y for y in range(size) if (x, y) in together] for x in range(size)]
    return [group for x, group in enumerate(found) if group[0] == x]


if __name__ == "__main__":
    unittest.main()
