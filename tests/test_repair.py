"""Promises [2] and [21] to [24]: peermend.repair."""

import unittest
from functools import lru_cache
from itertools import chain, permutations, product

from helpers import (CHOICES, FREE_64, NAMES, PAIRS_64, TABLE, Case, all_images, all_repairable,
                     image_of, mixed_pieces, repair_by_table, subsets, words_of)
from peermend import repair as module
from peermend.errors import InvalidImage, InvalidRecord, Unrepairable
from peermend.images import check_state
from peermend.pieces import is_repairable
from peermend.repair import parting, repair, torn_repair, unsteady, writes
from peermend.rules import Rules

ALL_RULES = [Rules.numbered(number) for number in range(32)]
# (word, records, what they show, what they show after each choice)
EXAMPLES = (
    ("hook", (2, 0, 1), [1, 0, 0], {"back": [1, 0, 2], "forward": [2, 1, 0]}),
    ("relay", (2, 0, 1), [1, 1, 0], {"near": [2, 1, 0], "far": [1, 0, 2]}),
    ("clamp", (0, 1, 2, 3), [1, 2, 1, 2], {"inner": [1, 0, 3, 2], "outer": [3, 2, 1, 0]}),
    ("trail", (0, 1, 2, 3), [1, 2, 3, 2], {"near": [1, 0, 3, 2], "far": [3, 2, 1, 0]}),
    ("wheel", (0, 1, 2, 3), [1, 2, 3, 0], {"even": [1, 0, 3, 2], "odd": [3, 2, 1, 0]}),
)
# (image, the error of everything that needs its pieces)
BAD_IMAGES = (
    ([1], InvalidImage(0)), ([0, -1], InvalidImage(1)), ([1, 2, 0, 4], InvalidImage(3)),
    ([1, 2, 0], Unrepairable([0, 1, 2])), ([0, 2, 3, 1], Unrepairable([1, 2, 3])),
    ([0, 0, 0], Unrepairable([0, 1, 2])), ([4, 2, 3, 1, 5, 0], Unrepairable([0, 4, 5])),
    ([0, 3, 5, 4, 1, 6, 2], Unrepairable([1, 3, 4])), ([63] * 64, Unrepairable(FREE_64)),
    (FREE_64[:63] + [64], InvalidImage(63)),
)


@lru_cache(maxsize=None)
def is_steady(number, largest):
    """The words of [23], for all images with at most so many records."""
    rules = Rules.numbered(number)
    for size in range(largest + 1):
        for image in all_repairable(size):
            state = repair_by_table(image, words_of(number))
            for done in subsets([x for x in range(size) if image[x] != state[x]]):
                torn = torn_repair(image, *done, rules=rules)
                if not is_repairable(torn) or repair(torn, rules) != state:
                    return False
    return True


class Interface(Case):

    def test_each_function_is_defined_in_its_file(self):
        self.assert_defined(module, "repair", "writes", "torn_repair", "unsteady", "parting")

    def test_the_example(self):
        image = [1, 0, 0, 3, 3]
        self.assertEqual([repair(image), writes(image)], [[1, 0, 2, 4, 3], [2, 3]])

    def test_rules_of_a_torn_repair_are_passed_by_keyword(self):
        self.assertEqual(torn_repair([1, 1], rules=None), [1, 1])
        self.assertEqual(torn_repair([1, 1], 1, rules=Rules()), [1, 0])


class Repairs(Case):

    def assert_repair(self, image, number, state):
        rules = Rules.numbered(number)
        self.assert_list(repair(image, rules), state)
        self.assert_list(writes(image, rules),
                         [x for x in range(len(image)) if image[x] != state[x]])
        self.assertIsNone(check_state(state))

    def test_the_choices_in_words(self):
        for word, records, image, ways in EXAMPLES:
            self.assertEqual(image_of(len(image), (word, records)), image)
            for number in range(32):
                choice = words_of(number)[NAMES.index(word)]
                self.assert_repair(image, number, ways[choice])

    def test_free_records_pairs_and_claims_by_all_rules(self):
        for number in range(32):
            for image, state in (([], []), ([0], [0]), ([1, 0], [1, 0]), ([1, 1], [1, 0]),
                                 ([0, 0], [1, 0]), ([2, 1, 2], [2, 1, 0]), (FREE_64, FREE_64),
                                 (PAIRS_64, PAIRS_64), ([x | 1 for x in range(64)], PAIRS_64)):
                self.assert_repair(image, number, state)

    def test_each_form_in_every_order_by_all_rules(self):
        for word in CHOICES:
            size = len(TABLE[word][0])
            for records in permutations(range(size)):
                image = image_of(size, (word, records))
                for number in range(32):
                    self.assert_repair(image, number, repair_by_table(image, words_of(number)))

    def test_what_the_order_of_a_clamp_or_a_wheel_means(self):
        # The clamp (0, 3, 2, 1) and the wheel (0, 2, 1, 3): which pairs are first is told by
        # the least record, not by the order in which they come up.
        self.assertEqual(repair([3, 2, 3, 2]), [3, 2, 1, 0])
        self.assertEqual(repair([3, 2, 3, 2], Rules(clamp="outer")), [1, 0, 3, 2])
        self.assertEqual(repair([2, 3, 1, 0]), [2, 3, 0, 1])
        self.assertEqual(repair([2, 3, 1, 0], Rules(wheel="odd")), [3, 2, 1, 0])
        self.assertEqual(repair([3, 0, 1, 2]), [3, 2, 1, 0])

    def test_all_small_images_by_all_rules(self):
        for size in range(5):
            for image in all_repairable(size):
                for number in range(32):
                    self.assert_repair(image, number, repair_by_table(image, words_of(number)))

    def test_all_images_of_five_records(self):
        for image in all_repairable(5):
            for number in (0, 31, 1, 2, 4, 8, 16):
                self.assert_repair(image, number, repair_by_table(image, words_of(number)))

    def test_each_two_forms_among_each_other(self):
        for first, second in product(TABLE, repeat=2):
            small, large = len(TABLE[first][0]), len(TABLE[second][0])
            mixed = [place * 5 % 9 for place in range(9)]
            image = image_of(9, (first, mixed[:small]), (second, mixed[small:small + large]))
            for number in range(32):
                self.assert_repair(image, number, repair_by_table(image, words_of(number)))

    def test_a_whole_table(self):
        image = image_of(64, *mixed_pieces())
        for number in range(32):
            self.assert_repair(image, number, repair_by_table(image, words_of(number)))

    def test_none_stands_for_the_standard_rules(self):
        for image in all_repairable(4):
            state = repair_by_table(image)
            for found in (repair(image), repair(image, None), repair(image, Rules())):
                self.assertEqual(found, state)
            records = [x for x in range(4) if image[x] != state[x]]
            for found in (writes(image), writes(image, None), writes(image, Rules())):
                self.assertEqual(found, records)
            for found in (torn_repair(image, *records), torn_repair(image, *records, rules=None),
                          torn_repair(image, *records, rules=Rules())):
                self.assertEqual(found, state)

    def test_wrong_images(self):
        for image, error in BAD_IMAGES:
            with self.subTest(image=image):
                for rules in (None, Rules.numbered(31)):
                    self.assert_error(error, repair, image, rules)
                    self.assert_error(error, writes, image, rules)
                    self.assert_error(error, torn_repair, image, rules=rules)
                    self.assert_error(error, torn_repair, image, 0, 99, rules=rules)

    def test_all_small_images_that_are_not_repairable(self):
        for image in chain(all_images(3), all_images(4)):
            if not is_repairable(image):
                with self.assertRaises(Unrepairable):
                    repair(image)


class TornRepairs(Case):

    def test_all_small_images(self):
        for size in range(5):
            for image in all_repairable(size):
                for number in (0, 9, 22, 31):
                    state = repair_by_table(image, words_of(number))
                    records = [x for x in range(size) if image[x] != state[x]]
                    for done in subsets(records):
                        expected = [state[x] if x in done else image[x] for x in range(size)]
                        found = torn_repair(image, *done, rules=Rules.numbered(number))
                        self.assert_list(found, expected)

    def test_no_some_and_all_writes(self):
        image = [1, 0, 0, 3, 3, 6, 7, 8, 5]
        self.assertEqual(writes(image), [2, 3, 6, 8])
        self.assertEqual(torn_repair(image), image)
        self.assertEqual(torn_repair(image, 3), [1, 0, 0, 4, 3, 6, 7, 8, 5])
        self.assertEqual(torn_repair(image, 8, 2), [1, 0, 2, 3, 3, 6, 7, 8, 7])
        self.assertEqual(torn_repair(image, 2, 3, 6, 8), repair(image))
        self.assertEqual(torn_repair([]), [])

    def test_doubles_count_once(self):
        image = [1, 0, 0, 3, 3]
        self.assertEqual(torn_repair(image, 2, 2), [1, 0, 2, 3, 3])
        self.assertEqual(torn_repair(image, 3, 2, 3, 2), repair(image))

    def test_the_first_stranger_counts(self):
        image = [1, 0, 0, 3, 3]
        for done, stranger in (((0,), 0), ((1, 0), 1), ((2, 4, 0), 4), ((3, 2, 3, 1), 1),
                               ((5,), 5), ((-1,), -1), ((2, -3, 5), -3), ((10 ** 30, 0), 10 ** 30),
                               ((64, -1), 64), ((2, 3, -10 ** 30), -10 ** 30)):
            self.assert_error(InvalidRecord(stranger), torn_repair, image, *done)
        self.assert_error(InvalidRecord(2), torn_repair, image, 2, rules=Rules(hook="forward"))
        self.assertEqual(torn_repair(image, 0, 1, rules=Rules(hook="forward")), [2, 1, 0, 3, 3])
        self.assert_error(InvalidRecord(0), torn_repair, [], 0)
        self.assert_error(InvalidRecord(0), torn_repair, [1, 0], 0)


class Steady(Case):

    def test_unsteady_is_none_exactly_for_back_and_near(self):
        for number in range(32):
            rules = Rules.numbered(number)
            found = unsteady(rules)
            if rules.hook == "back" and rules.trail == "near":
                self.assertIsNone(found)
                continue
            self.assertIs(type(found), tuple)
            image, done = found
            self.assertEqual((type(image), type(done)), (list, list))
            self.assertLessEqual(len(image), 4)
            state = repair_by_table(image, words_of(number))
            self.assertLessEqual(set(done), {x for x in range(len(image)) if image[x] != state[x]})
            torn = torn_repair(image, *done, rules=rules)
            self.assertTrue(not is_repairable(torn)
                            or repair_by_table(torn, words_of(number)) != state)

    def test_none_stands_for_the_standard_rules(self):
        self.assertIsNone(unsteady())
        self.assertIsNone(unsteady(None))
        self.assertIsNone(unsteady(Rules()))

    def test_the_statement_for_all_rules_and_images_of_up_to_4_records(self):
        for number in range(32):
            self.assertIs(is_steady(number, 4), unsteady(Rules.numbered(number)) is None)

    def test_steady_rules_for_all_images_of_5_records(self):
        for number in range(32):
            if unsteady(Rules.numbered(number)) is None:
                self.assertIs(is_steady(number, 5), True)

    def test_the_lists_are_new_each_time(self):
        for rules in (Rules(hook="forward"), Rules(trail="far")):
            image, done = unsteady(rules)
            kept = (list(image), list(done))
            image[0] = 9
            done.append(9)
            self.assertEqual(unsteady(rules), kept)


class Parting(Case):

    def setUp(self):
        # For each rules the repairs of all images of up to 4 records, fewest records first.
        self.images = [image for size in range(5) for image in all_repairable(size)]
        self.repairs = [[repair_by_table(image, words_of(number)) for image in self.images]
                        for number in range(32)]

    def least(self, first, second):
        for at, image in enumerate(self.images):
            if self.repairs[first][at] != self.repairs[second][at]:
                return image
        return None

    def test_all_pairs_of_rules(self):
        for first, second in product(range(32), repeat=2):
            found = parting(ALL_RULES[first], ALL_RULES[second])
            self.assertEqual(found, self.least(first, second), (first, second))
            self.assertEqual(found is None, first == second)

    def test_none_stands_for_the_standard_rules(self):
        self.assertIsNone(parting(None, None))
        self.assertIsNone(parting(None, Rules()))
        for number in range(32):
            self.assertEqual(parting(None, ALL_RULES[number]), self.least(0, number))
            self.assertEqual(parting(ALL_RULES[number], None), self.least(0, number))

    def test_the_image_is_new_each_time(self):
        parting(None, Rules.numbered(31)).append(3)
        self.assert_list(parting(None, Rules.numbered(31)), [0, 0, 1])


class Copies(Case):

    def test_no_call_changes_its_arguments(self):
        for image in ([], [1, 0, 0, 3, 3], [1, 2, 3, 0], [1, 2, 0], [9]):
            for number in (0, 9, 31):
                given, rules = list(image), Rules.numbered(number)
                for call in (lambda: repair(given, rules), lambda: writes(given, rules),
                             lambda: torn_repair(given, *writes(given, rules), rules=rules),
                             lambda: torn_repair(given, 77, rules=rules),
                             lambda: unsteady(rules), lambda: parting(rules, None)):
                    try:
                        call()
                    except (InvalidImage, InvalidRecord, Unrepairable):
                        pass
                    self.assertEqual((given, rules.number), (image, number))

    def test_changing_what_was_returned_has_no_effect(self):
        image = [1, 0, 2, 3, 3]
        for function, expected in ((repair, [1, 0, 2, 4, 3]), (writes, [3]),
                                   (torn_repair, [1, 0, 2, 3, 3])):
            found = function(image)
            found[0] = 4
            found.append(4)
            self.assertEqual(function(image), expected)
            self.assertEqual(image, [1, 0, 2, 3, 3])
        state = [1, 0, 2]
        repair(state)[0] = 2
        torn_repair(state)[0] = 2
        self.assertEqual(state, [1, 0, 2])


if __name__ == "__main__":
    unittest.main()
