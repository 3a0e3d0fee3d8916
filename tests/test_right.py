"""Promises [2] and [25] to [27]: peermend.right."""

import unittest
from itertools import islice, product

from helpers import (CHOICES, FREE_64, PAIRS_64, TABLE, Case, all_images, all_repairable,
                     all_states, image_of, is_right_by_words, mixed_pieces, readings_by_words,
                     repair_by_table, settle, words_of)
from peermend import right
from peermend.errors import InvalidImage, InvalidNumber, NotState, UnequalSizes, Unrepairable
from peermend.images import check_state
from peermend.pieces import is_repairable, pieces
from peermend.repair import repair, writes
from peermend.right import is_right, least_writes, right_at, right_count, rights
from peermend.rules import Rules

FUNCTIONS = (right_count, lambda image: next(rights(image)), lambda image: right_at(image, 0),
             lambda image: is_right(image, [0]), least_writes)
CLAIMS_64 = [record | 1 for record in range(64)]
# 20 hooks, a claim and two free records.
HOOKS_64 = image_of(64, ("claim", (60, 61)),
                    *[("hook", (3 * x, 3 * x + 1, 3 * x + 2)) for x in range(20)])
WHEELS_64 = image_of(64, *[("wheel", (x, x + 16, x + 32, x + 48)) for x in range(16)])
# (image, its right states in their order)
CASES = (
    ([], [[]]),
    ([0], [[0]]),
    ([1, 0], [[1, 0]]),
    ([1, 1], [[1, 0], [0, 1]]),
    ([0, 0], [[1, 0], [0, 1]]),
    ([1, 1, 2], [[1, 0, 2]]),
    ([1, 1, 3, 2], [[1, 0, 3, 2], [0, 1, 3, 2]]),
    ([1, 0, 0], [[1, 0, 2], [2, 1, 0]]),
    ([1, 1, 0], [[2, 1, 0], [1, 0, 2]]),
    ([1, 2, 1, 2], [[1, 0, 3, 2], [3, 2, 1, 0]]),
    ([1, 2, 3, 2], [[1, 0, 3, 2], [3, 2, 1, 0]]),
    ([1, 2, 3, 0], [[1, 0, 3, 2], [3, 2, 1, 0]]),
    ([1, 1, 3, 3], [[1, 0, 3, 2], [1, 0, 2, 3], [0, 1, 3, 2], [0, 1, 2, 3]]),
    ([1, 1, 3, 3, 4], [[1, 0, 3, 2, 4]]),
    ([1, 0, 0, 3, 3], [[1, 0, 2, 4, 3], [1, 0, 2, 3, 4], [2, 1, 0, 4, 3], [2, 1, 0, 3, 4]]),
    # The relay (1, 3, 4), the claim (5, 2) and the free record 0.
    ([0, 3, 2, 4, 4, 2], [[0, 3, 5, 1, 4, 2], [0, 1, 5, 4, 3, 2]]),
)


def rights_by_table(image):
    """The right states of an image, from the words of [25] and [26] and the table of [20]."""
    found = pieces(image)
    has_free = any(word == "free" for word, _ in found)
    torn = [piece for piece in found if piece[0] not in ("free", "pair")]
    ways = []
    for word, _ in torn:
        if word == "claim":
            ways.append(("pair",) if has_free else ("pair", "free"))
        else:
            ways.append(tuple(CHOICES[word][1]))
    states = []
    for chosen in product(*ways):
        state = list(image)
        for (word, records), choice in zip(torn, chosen):
            if choice == "free":
                for record in records:
                    state[record] = record
            else:
                settle(state, word, records, choice)
        states.append(state)
    return states


def differing(image, state):
    return sum(shown != name for shown, name in zip(image, state))


class Interface(Case):

    def test_each_function_is_defined_in_its_file(self):
        self.assert_defined(right, "right_count", "rights", "right_at", "is_right", "least_writes")


class Rights(Case):

    def assert_rights(self, image, states):
        self.assertEqual(list(rights(image)), states)
        self.assertEqual(right_count(image), len(states))
        for number, state in enumerate(states):
            self.assert_list(right_at(image, number), state)
            self.assertIs(is_right(image, state), True)
        for number in (-1, -2, len(states), len(states) + 1, 10 ** 40, -10 ** 40):
            self.assert_error(InvalidNumber(number), right_at, image, number)
        self.assertEqual(least_writes(image), min(differing(image, state) for state in states))

    def test_in_words(self):
        for image, states in CASES:
            with self.subTest(image=image):
                self.assert_rights(image, states)

    def test_each_torn_piece_alone_and_beside_others(self):
        for first, second in product(TABLE, repeat=2):
            small, large = len(TABLE[first][0]), len(TABLE[second][0])
            for size, step in ((small + large, 1), (9, 5), (9, 7)):
                mixed = [place * step % size for place in range(size)]
                image = image_of(size, (first, mixed[:small]),
                                 (second, mixed[small:small + large]))
                self.assert_rights(image, rights_by_table(image))

    def test_all_small_images_in_the_words_of_readings(self):
        for size in range(6):
            for image in all_repairable(size):
                readings = readings_by_words(image)
                expected = [state for state in all_states(size)
                            if is_right_by_words(image, state, readings)]
                self.assertEqual(sorted(rights(image)), expected)
                for state in all_states(size):
                    self.assertIs(is_right(image, state), state in expected)
                self.assert_rights(image, rights_by_table(image))

    def test_the_repair_by_any_rules_is_right(self):
        for size in range(5):
            for image in all_repairable(size):
                for number in range(32):
                    self.assertIs(is_right(image, repair(image, Rules.numbered(number))), True)
        image = image_of(64, *mixed_pieces())
        for number in range(32):
            self.assertIs(is_right(image, repair_by_table(image, words_of(number))), True)

    def test_a_claim_may_be_parted_only_if_no_record_is_free(self):
        for size in range(2, 7):
            image = [1, 1] + list(range(2, size))
            self.assertEqual(right_count(image), 2 if size == 2 else 1)
            self.assertIs(is_right(image, list(range(size))), size == 2)
        # The ends of a claim and of a relay show themselves, but they are not free.
        self.assertEqual(right_count([1, 1, 3, 3]), 4)
        self.assertEqual(right_count([1, 1, 3, 4, 4]), 4)

    def test_states_that_are_right_at_all_pieces_but_not_elsewhere(self):
        self.assertIs(is_right([1, 0, 0, 3, 4], [1, 0, 2, 4, 3]), False)
        self.assertIs(is_right([1, 0, 0, 4, 3], [2, 1, 0, 3, 4]), False)
        self.assertIs(is_right([1, 0, 0, 4, 3], [2, 1, 0, 4, 3]), True)
        self.assertIs(is_right([1, 0, 0], [0, 2, 1]), False)
        self.assertIs(is_right([1, 0, 0], [0, 1, 2]), False)
        self.assertIs(is_right([1, 0], [0, 1]), False)
        self.assertIs(is_right([0, 1], [1, 0]), False)


class ManyRights(Case):

    def test_the_number_and_the_first_values_come_at_once(self):
        for image, count in ((CLAIMS_64, 2 ** 32), (HOOKS_64, 2 ** 20), (WHEELS_64, 2 ** 16),
                             (FREE_64, 1), (PAIRS_64, 1)):
            self.assertEqual(right_count(image), count)
            first = list(islice(rights(image), 5))
            self.assertEqual(len(first), min(count, 5))
            for number, state in enumerate(first):
                self.assertEqual(right_at(image, number), state)
            self.assertEqual(first[0], repair_by_table(image))
            for number in (-1, count, count + 1, 10 ** 60):
                self.assert_error(InvalidNumber(number), right_at, image, number)

    def test_the_first_piece_counts_most(self):
        self.assertEqual(right_at(CLAIMS_64, 0), PAIRS_64)
        self.assertEqual(right_at(CLAIMS_64, 1), PAIRS_64[:62] + [62, 63])
        self.assertEqual(right_at(CLAIMS_64, 2), PAIRS_64[:60] + [60, 61, 63, 62])
        self.assertEqual(right_at(CLAIMS_64, 2 ** 31), [0, 1] + PAIRS_64[2:])
        self.assertEqual(right_at(CLAIMS_64, 2 ** 32 - 1), FREE_64)
        for number in (0x12345678, 0xFFFF0000, 0xA5A5A5A5):
            state = right_at(CLAIMS_64, number)
            bits = f"{number:032b}"
            self.assertEqual([state[x] == x for x in range(0, 64, 2)], [bit == "1" for bit in bits])
            self.assertIs(is_right(CLAIMS_64, state), True)

    def test_a_table_with_all_words(self):
        image = image_of(64, *mixed_pieces())
        torn = [word for word, _ in pieces(image) if word not in ("free", "pair", "claim")]
        self.assertEqual(right_count(image), 2 ** len(torn))
        expected = rights_by_table(image)
        self.assertEqual(len(expected), 2 ** len(torn))
        for number in list(range(0, len(expected), 97)) + [len(expected) - 1]:
            self.assertEqual(right_at(image, number), expected[number])
        self.assertEqual(list(islice(rights(image), 40)), expected[:40])


class Writes(Case):

    def test_by_piece(self):
        for image, least in (([], 0), ([0], 0), ([1, 0], 0), ([1, 1], 1), ([1, 0, 0], 1),
                             ([1, 1, 0], 1), ([1, 2, 1, 2], 2), ([1, 2, 3, 2], 1),
                             ([1, 2, 3, 0], 2), ([1, 1, 2], 1), ([1, 0, 0, 3, 3], 2),
                             (CLAIMS_64, 32), (HOOKS_64, 21), (WHEELS_64, 32), (FREE_64, 0)):
            self.assertEqual(least_writes(image), least)

    def test_steady_rules_that_choose_near_for_relays_write_so_many(self):
        for clamp, wheel in product(("inner", "outer"), ("even", "odd")):
            rules = Rules(clamp=clamp, wheel=wheel)
            for size in range(6):
                for image in all_repairable(size):
                    self.assertEqual(len(writes(image, rules)), least_writes(image))
            for image in (CLAIMS_64, HOOKS_64, WHEELS_64, image_of(64, *mixed_pieces())):
                self.assertEqual(len(writes(image, rules)), least_writes(image))


class WrongArguments(Case):

    def test_images(self):
        for image, error in (([1], InvalidImage(0)), ([0, 0, 0, 4], InvalidImage(3)),
                             ([1, 2, 0], Unrepairable([0, 1, 2])),
                             ([0, 2, 3, 1], Unrepairable([1, 2, 3])),
                             ([0, 3, 5, 4, 1, 6, 2], Unrepairable([1, 3, 4]))):
            for function in FUNCTIONS:
                self.assert_error(error, function, image)
            for number in (-1, 0, 99):
                self.assert_error(error, right_at, image, number)
            for state in ([], [1, 0], [0, 0], [5]):
                self.assert_error(error, is_right, image, state)

    def test_rights_checks_when_the_first_value_is_asked_for(self):
        found = rights([1, 2, 0])
        self.assert_error(Unrepairable([0, 1, 2]), next, found)

    def test_all_small_images_that_are_not_repairable(self):
        for image in all_images(4):
            if not is_repairable(image):
                for function in FUNCTIONS:
                    with self.assertRaises(Unrepairable):
                        function(image)

    def test_states(self):
        for image in ([1, 0, 0], [0], []):
            self.assert_error(InvalidImage(1), is_right, image, [0, 2])
            self.assert_error(InvalidImage(2), is_right, image, [1, 1, 3])
            self.assert_error(NotState(0), is_right, image, [1, 1])
            self.assert_error(NotState(2), is_right, image, [1, 0, 0])
            self.assert_error(UnequalSizes(), is_right, image, [1, 0])
            self.assert_error(UnequalSizes(), is_right, image, [1, 0, 2, 3])
        self.assert_error(UnequalSizes(), is_right, [1, 0, 0], [])
        for image in all_images(3):
            try:
                check_state(image)
            except NotState as error:
                self.assert_error(error, is_right, [1, 1, 2], image)


class Copies(Case):

    def test_no_call_changes_its_arguments(self):
        for image in ([1, 0, 0, 3, 3], [1, 1, 3, 3], [1, 2, 0, 3], [5, 0]):
            given, state = list(image), [1, 0, 2, 3]
            for call in (lambda: right_count(given), lambda: list(rights(given)),
                         lambda: right_at(given, 1), lambda: right_at(given, 99),
                         lambda: is_right(given, state), lambda: least_writes(given)):
                try:
                    call()
                except (InvalidImage, InvalidNumber, UnequalSizes, Unrepairable):
                    pass
                self.assertEqual((given, state), (image, [1, 0, 2, 3]))

    def test_changing_what_was_returned_has_no_effect(self):
        for image in ([1, 0, 0, 3, 3], [1, 1, 3, 3], [1, 0, 2]):
            expected = rights_by_table(image)
            found = []
            for state in rights(image):
                found.append(list(state))
                state[0] = 9
                state.append(9)
            self.assertEqual(found, expected)
            right_at(image, 0).append(9)
            self.assertEqual(right_at(image, 0), expected[0])
            self.assertEqual(list(rights(image)), expected)


if __name__ == "__main__":
    unittest.main()
