"""Promises [2] and [31] to [35]: peermend.readings."""

import unittest
from itertools import islice, permutations, product
from math import comb, perm
from random import Random

from helpers import (FREE_64, PAIRS_64, TABLE, Case, all_changes, all_images, all_repairable,
                     all_states, drawn_image, image_of, is_right_by_words, mixed_pieces,
                     readings_by_words, rows_of, side_by_definition)
from peermend import readings as module
from peermend.changes import check_change
from peermend.errors import (InvalidChange, InvalidImage, InvalidNumber, NotState, UnequalSizes,
                             Unrepairable)
from peermend.pieces import is_repairable, pieces
from peermend.readings import (count_readings, involvement, is_reading, objection, reading_at,
                               reading_number, readings)
from peermend.repair import repair
from peermend.right import is_right, right_at, right_count

FUNCTIONS = (count_readings, lambda image: next(readings(image)),
             lambda image: reading_at(image, 0), lambda image: reading_number(image, []),
             involvement, lambda image: objection(image, [0]))
CLAIMS_64 = [record | 1 for record in range(64)]
# 20 claims and 24 free records.
OPEN_64 = image_of(64, *[("claim", (3 * x, 3 * x + 1)) for x in range(20)])
# (image, its readings in their order)
CASES = (
    ([], [[]]),
    ([0], [[]]),
    ([1, 0], [[]]),
    ([1, 1], [[("tie", (0, 1))]]),
    ([0, 0], [[("tie", (0, 1))]]),
    ([1, 0, 0], [[("move", (0, 1, 2))]]),
    ([1, 1, 0], [[("move", (0, 1, 2))]]),
    ([1, 2, 1, 2], [[("cross", (0, 1, 2, 3))]]),
    ([1, 2, 3, 2], [[("cross", (0, 1, 2, 3))]]),
    ([1, 2, 3, 0], [[("cross", (0, 1, 2, 3))]]),
    ([2, 3, 1, 0], [[("cross", (0, 2, 1, 3))]]),
    ([3, 3, 0, 0], [[("cross", (0, 2, 1, 3))]]),
)
# The claims (0, 1) and (4, 2), the hook (6, 7, 8), the free records 3 and 5.
TWO_CLAIMS = [1, 1, 2, 3, 2, 5, 7, 8, 7]
HOOK = ("move", (7, 6, 8))
TWO_CLAIMS_READINGS = [
    [("tie", (0, 1)), ("tie", (2, 4)), HOOK],
    [("tie", (0, 1)), ("move", (4, 2, 3)), HOOK],
    [("tie", (0, 1)), ("move", (4, 2, 5)), HOOK],
    [("move", (0, 1, 3)), ("tie", (2, 4)), HOOK],
    [("move", (0, 1, 3)), ("move", (4, 2, 5)), HOOK],
    [("move", (0, 1, 5)), ("tie", (2, 4)), HOOK],
    [("move", (0, 1, 5)), ("move", (4, 2, 3)), HOOK],
]


def change_by_words(word, records):
    """The change of a torn piece that is no claim, by the words of [32]."""
    if word in ("hook", "relay"):
        c, a, b = records
        return ("move", (a, min(b, c), max(b, c)))
    least = min(records)
    at = records.index(least)
    near, far = sorted((records[at - 1], records[(at + 1) % 4]))
    return ("cross", (least, near, records[(at + 2) % 4], far))


def readings_in_order(image):
    """The readings of an image, by the words of [32] and [33]."""
    found = pieces(image)
    torn = [piece for piece in found if piece[0] not in ("free", "pair")]
    free = [records[0] for word, records in found if word == "free"]
    ways = []
    for word, records in torn:
        if word == "claim":
            a, b = records
            ways.append([("tie", (min(a, b), max(a, b)))]
                        + [("move", (a, min(b, c), max(b, c))) for c in free])
        else:
            ways.append([change_by_words(word, records)])
    return [list(chosen) for chosen in product(*ways)
            if len({x for _, records in chosen for x in records})
            == sum(len(records) for _, records in chosen)]


def as_set(changes):
    return tuple(sorted(changes))


class Interface(Case):

    def test_each_function_is_defined_in_its_file(self):
        self.assert_defined(module, "count_readings", "readings", "reading_at", "reading_number",
                            "is_reading", "involvement", "objection")


class Readings(Case):

    def assert_readings(self, image, expected):
        self.assertEqual(list(readings(image)), expected)
        self.assertEqual(count_readings(image), len(expected))
        for number, changes in enumerate(expected):
            self.assert_list(reading_at(image, number), changes)
            self.assertEqual(reading_number(image, changes), number)
            self.assertEqual(reading_number(image, changes[::-1]), number)
            self.assertIs(is_reading(image, changes), True)
            for change in changes:
                check_change(change, len(image))
        for number in (-1, -2, len(expected), len(expected) + 1, 10 ** 40, -10 ** 40):
            self.assert_error(InvalidNumber(number), reading_at, image, number)

    def test_in_words(self):
        for image, expected in CASES:
            with self.subTest(image=image):
                self.assert_readings(image, expected)

    def test_the_order_of_the_claims_and_of_their_free_records(self):
        self.assert_readings(TWO_CLAIMS, TWO_CLAIMS_READINGS)
        self.assert_readings([0, 1, 3, 3], [[("tie", (2, 3))], [("move", (2, 0, 3))],
                                            [("move", (2, 1, 3))]])
        self.assert_readings([0, 2, 2], [[("tie", (1, 2))], [("move", (1, 0, 2))]])
        # The records that claims and relays end at show themselves, but they are not free.
        self.assert_readings([1, 1, 3, 3], [[("tie", (0, 1)), ("tie", (2, 3))]])
        self.assert_readings([1, 1, 3, 4, 4], [[("tie", (0, 1)), ("move", (3, 2, 4))]])
        # The free record of a move comes before its piece, and the piece keeps its place.
        self.assert_readings([0, 2, 1, 1, 5, 5],
                             [[("move", (1, 2, 3)), ("tie", (4, 5))],
                              [("move", (1, 2, 3)), ("move", (4, 0, 5))]])

    def test_each_torn_piece_alone_and_beside_others(self):
        for first, second in product(TABLE, repeat=2):
            small, large = len(TABLE[first][0]), len(TABLE[second][0])
            for size, step in ((small + large, 1), (9, 5), (9, 7)):
                mixed = [place * step % size for place in range(size)]
                image = image_of(size, (first, mixed[:small]),
                                 (second, mixed[small:small + large]))
                self.assert_readings(image, readings_in_order(image))

    def test_all_small_images_in_the_words_of_the_definition(self):
        for size in range(6):
            for image in all_repairable(size):
                expected = readings_in_order(image)
                self.assertEqual(sorted(as_set(changes) for changes in expected),
                                 sorted(as_set(changes) for changes in readings_by_words(image)))
                self.assert_readings(image, expected)

    def test_an_image_has_a_reading_exactly_if_it_is_repairable(self):
        for size in range(5):
            for image in all_images(size):
                self.assertIs(len(readings_by_words(image)) > 0, is_repairable(image))
                if not is_repairable(image):
                    self.assertIs(is_reading(image, []), False)

    def test_drawn_images(self):
        draw = Random(33)
        for _ in range(60):
            image = drawn_image(draw, draw.randint(6, 12))
            expected = readings_in_order(image)
            if len(expected) <= 400:
                self.assert_readings(image, expected)

    def test_changes_in_any_order(self):
        for number, changes in enumerate(TWO_CLAIMS_READINGS):
            for mixed in permutations(changes):
                self.assertEqual(reading_number(TWO_CLAIMS, list(mixed)), number)
                self.assertIs(is_reading(TWO_CLAIMS, list(mixed)), True)


class NoReadings(Case):

    def assert_none(self, image, changes):
        self.assertIs(is_reading(image, changes), False)
        self.assert_error(InvalidChange(), reading_number, image, changes)

    def test_a_change_left_out_or_one_too_many(self):
        for changes in TWO_CLAIMS_READINGS:
            for at, change in enumerate(changes):
                self.assert_none(TWO_CLAIMS, changes[:at] + changes[at + 1:])
                self.assert_none(TWO_CLAIMS, changes + [change])
                self.assert_none(TWO_CLAIMS, changes[:at] + changes[at + 1:] + [changes[at - 1]])
        self.assert_none([1, 1, 3, 2], [("tie", (0, 1)), ("tie", (2, 3))])
        self.assert_none([1, 1], [])
        self.assert_none([0, 1], [("tie", (0, 1))])
        self.assert_none([], [("tie", (0, 1))])

    def test_both_changes_of_one_claim(self):
        image = [1, 1, 2, 4, 4]
        self.assert_none(image, [("tie", (0, 1)), ("move", (0, 1, 2))])
        self.assert_none(image, [("tie", (0, 1)), ("move", (0, 1, 2)), ("tie", (3, 4))])
        self.assert_none([1, 1, 2, 3, 5, 5], [("move", (0, 1, 2)), ("move", (0, 1, 3))])

    def test_changes_that_overlap(self):
        image = [1, 1, 2, 4, 4]
        self.assert_none(image, [("move", (0, 1, 2)), ("move", (3, 2, 4))])
        self.assertEqual(reading_number(image, [("move", (3, 2, 4)), ("tie", (0, 1))]), 1)

    def test_a_change_at_a_side_or_elsewhere(self):
        self.assert_none([1, 0, 2], [("move", (0, 1, 2))])
        self.assert_none([1, 1, 3, 2], [("tie", (2, 3))])
        self.assert_none([1, 1, 2], [("tie", (0, 2))])
        self.assert_none([1, 1, 2], [("move", (1, 0, 2))])
        self.assert_none([1, 1, 2], [("move", (2, 0, 1))])
        self.assert_none([1, 2, 3, 0], [("cross", (0, 1, 3, 2))])
        self.assert_none([1, 1, 3, 3], [("cross", (0, 1, 2, 3))])

    def test_changes_that_are_not_valid(self):
        for change in (("tie", (1, 0)), ("tie", (0, 0)), ("tie", (0, 1, 2)), ("knot", (0, 1)),
                       ("tie", ()), ("tie", (0, 9)), ("tie", (-1, 0)), ("move", (0, 2, 1)),
                       ("move", (0, 1)), ("cross", (0, 1)), ("", (0, 1))):
            self.assert_none([1, 1, 2], [change])
            self.assert_none([1, 1, 2], [("tie", (0, 1)), change])
            self.assert_none([0, 1, 2], [change])

    def test_images_that_are_not_repairable(self):
        for image in ([1, 2, 0], [0, 0, 0], [0, 2, 3, 1]):
            for changes in ([], [("tie", (0, 1))], [("move", (0, 1, 2))]):
                self.assertIs(is_reading(image, changes), False)

    def test_all_lists_of_changes_of_a_small_table(self):
        changes = all_changes(4)
        for image in all_repairable(4)[::5]:
            expected = {as_set(found): number
                        for number, found in enumerate(readings_in_order(image))}
            for many in range(3):
                for chosen in product(changes, repeat=many):
                    found = expected.get(as_set(chosen))
                    self.assertIs(is_reading(image, list(chosen)), found is not None)
                    if found is not None:
                        self.assertEqual(reading_number(image, list(chosen)), found)


class ManyReadings(Case):

    def test_the_number_and_the_first_values_come_at_once(self):
        for image, claims, free in ((OPEN_64, 20, 24), (CLAIMS_64, 32, 0), (FREE_64, 0, 64),
                                    (PAIRS_64, 0, 0), ([1, 1] + FREE_64[2:], 1, 62),
                                    (image_of(64, *[("claim", (x, x + 21)) for x in range(21)]),
                                     21, 22)):
            count = sum(comb(claims, k) * perm(free, k) for k in range(min(claims, free) + 1))
            self.assertEqual(count_readings(image), count)
            first = list(islice(readings(image), 30))
            self.assertEqual(len(first), min(30, count))
            for number, changes in enumerate(first):
                self.assertEqual(reading_at(image, number), changes)
            chosen = [number for number in (0, 1, count - 1, count // 2, count // 3, 10 ** 15)
                      if number < count]
            for number in chosen:
                changes = reading_at(image, number)
                self.assertEqual(reading_number(image, changes), number)
                self.assertEqual(reading_number(image, changes[::-1]), number)
                self.assertIs(is_reading(image, changes), True)
                self.assertEqual(len(changes), claims)
            for number in (-1, count, count + 1, count * 2):
                self.assert_error(InvalidNumber(number), reading_at, image, number)

    def test_the_first_claim_counts_most(self):
        self.assertEqual(reading_at(OPEN_64, 0),
                         [("tie", (3 * x, 3 * x + 1)) for x in range(20)])
        last = [("move", (3 * x, 3 * x + 1, 63 - x)) for x in range(4)]
        last += [("move", (3 * x, min(3 * x + 1, 3 * (23 - x) + 2), max(3 * x + 1, 3 * (23 - x) + 2)))
                 for x in range(4, 20)]
        self.assertEqual(reading_at(OPEN_64, count_readings(OPEN_64) - 1), last)
        self.assertEqual(reading_at(OPEN_64, 1)[:19], reading_at(OPEN_64, 0)[:19])
        self.assertEqual(reading_at(OPEN_64, 1)[19], ("move", (57, 2, 58)))

    def test_a_table_with_all_words(self):
        image = image_of(64, *mixed_pieces())
        expected = readings_in_order(image)
        self.assertEqual(count_readings(image), len(expected))
        self.assertEqual(list(readings(image)), expected)


class Involvement(Case):

    def test_all_small_images_in_the_words_of_readings(self):
        for size in range(6):
            for image in all_repairable(size):
                found = readings_by_words(image)
                words = []
                for record in range(size):
                    many = sum(any(record in records for _, records in changes) for changes in found)
                    words.append("always" if many == len(found) else "sometimes" if many else "never")
                self.assert_list(involvement(image), words)

    def test_large_images(self):
        self.assertEqual(involvement(CLAIMS_64), ["always"] * 64)
        self.assertEqual(involvement(FREE_64), ["never"] * 64)
        self.assertEqual(involvement(PAIRS_64), ["never"] * 64)
        self.assertEqual(involvement([1, 1] + FREE_64[2:62] + [63, 62]),
                         ["always"] * 2 + ["sometimes"] * 60 + ["never"] * 2)
        self.assertEqual(involvement([1, 0, 0] + FREE_64[3:]), ["always"] * 3 + ["never"] * 61)
        self.assertEqual(involvement(OPEN_64)[:6],
                         ["always", "always", "sometimes", "always", "always", "sometimes"])


class Objections(Case):

    def assert_objection(self, image, state, found):
        """The words of [35]."""
        self.assertIs(type(found), list)
        self.assertIs(is_reading(image, found), True)
        self.assertEqual(reading_at(image, reading_number(image, found)), found)
        inside = [record for _, records in found for record in records]
        self.assertTrue(any(side_by_definition(state, change) is None for change in found)
                        or any(state[x] != image[x] for x in range(len(image)) if x not in inside))

    def test_all_small_images_and_all_states(self):
        for size in range(6):
            for image in all_repairable(size):
                expected = readings_by_words(image)
                for state in all_states(size):
                    found = objection(image, state)
                    if is_right_by_words(image, state, expected):
                        self.assertIsNone(found)
                    else:
                        self.assert_objection(image, state, found)
                        self.assertIn(as_set(found), [as_set(changes) for changes in expected])

    def test_a_claim_that_is_free_beside_a_free_record(self):
        self.assertIsNone(objection([1, 1], [0, 1]))
        self.assertEqual(objection([1, 1, 2], [0, 1, 2]), [("move", (0, 1, 2))])
        self.assertEqual(objection([1, 1, 3, 3, 4], [1, 0, 2, 3, 4]),
                         [("tie", (0, 1)), ("move", (2, 3, 4))])

    def test_large_images_at_once(self):
        draw = Random(35)
        images = [OPEN_64, CLAIMS_64, FREE_64, PAIRS_64, image_of(64, *mixed_pieces())]
        images += [drawn_image(draw, draw.randint(20, 64)) for _ in range(40)]
        for image in images:
            right = right_at(image, draw.randrange(right_count(image)))
            self.assertIsNone(objection(image, right))
            self.assertIsNone(objection(image, repair(image)))
            for _ in range(10):
                state = list(right)
                for x in draw.sample(range(len(image)), 2):
                    other = state[x]
                    state[x], state[other] = x, other
                if draw.randint(0, 1):
                    x, y = draw.sample(range(len(image)), 2)
                    if state[x] == x and state[y] == y:
                        state[x], state[y] = y, x
                if is_right(image, state):
                    self.assertIsNone(objection(image, state))
                else:
                    self.assert_objection(image, state, objection(image, state))
        self.assert_objection(OPEN_64, FREE_64, objection(OPEN_64, FREE_64))


class WrongArguments(Case):

    def test_images(self):
        for image, error in (([1], InvalidImage(0)), ([0, 0, 0, 4], InvalidImage(3)),
                             ([0, -1, 2], InvalidImage(1)),
                             ([1, 2, 0], Unrepairable([0, 1, 2])),
                             ([0, 2, 3, 1], Unrepairable([1, 2, 3])),
                             ([0, 3, 5, 4, 1, 6, 2], Unrepairable([1, 3, 4]))):
            for function in FUNCTIONS:
                self.assert_error(error, function, image)
            for number in (-1, 0, 99):
                self.assert_error(error, reading_at, image, number)
            for state in ([], [1, 0], [0, 0], [5]):
                self.assert_error(error, objection, image, state)
            for changes in ([], [("tie", (0, 9))], [("tie", (0, 1))]):
                self.assert_error(error, reading_number, image, changes)
                if isinstance(error, InvalidImage):
                    self.assert_error(error, is_reading, image, changes)

    def test_readings_checks_when_the_first_value_is_asked_for(self):
        found = readings([1, 2, 0])
        self.assert_error(Unrepairable([0, 1, 2]), next, found)
        self.assert_error(InvalidImage(0), next, readings([5]))

    def test_states(self):
        for image in ([1, 0, 0], [0], []):
            self.assert_error(InvalidImage(1), objection, image, [0, 2])
            self.assert_error(NotState(0), objection, image, [1, 1])
            self.assert_error(NotState(2), objection, image, [1, 0, 0])
            self.assert_error(InvalidImage(2), objection, image, [1, 1, 3])
            self.assert_error(UnequalSizes(), objection, image, [1, 0])
            self.assert_error(UnequalSizes(), objection, image, [1, 0, 2, 3])


class Copies(Case):

    def test_no_call_changes_its_arguments(self):
        for image in (TWO_CLAIMS, [1, 1, 2], [1, 2, 0, 3], [5, 0]):
            given, state, changes = list(image), [1, 0, 2], [("tie", (0, 1)), HOOK]
            for call in (lambda: count_readings(given), lambda: list(readings(given)),
                         lambda: reading_at(given, 1), lambda: reading_number(given, changes),
                         lambda: is_reading(given, changes), lambda: involvement(given),
                         lambda: objection(given, state)):
                try:
                    call()
                except (InvalidImage, InvalidNumber, InvalidChange, UnequalSizes, Unrepairable):
                    pass
                self.assertEqual((given, state, changes),
                                 (image, [1, 0, 2], [("tie", (0, 1)), HOOK]))
        mixed = TWO_CLAIMS_READINGS[4][::-1]
        reading_number(TWO_CLAIMS, mixed)
        self.assertEqual(mixed, TWO_CLAIMS_READINGS[4][::-1])

    def test_changing_what_was_returned_has_no_effect(self):
        found = []
        for changes in readings(TWO_CLAIMS):
            found.append(list(changes))
            changes.clear()
        self.assertEqual(found, TWO_CLAIMS_READINGS)
        reading_at(TWO_CLAIMS, 2).append(5)
        self.assertEqual(reading_at(TWO_CLAIMS, 2), TWO_CLAIMS_READINGS[2])
        involvement([1, 1, 2]).append(5)
        self.assertEqual(involvement([1, 1, 2]), ["always", "always", "sometimes"])
        objection([1, 1, 2], [0, 1, 2]).append(5)
        self.assertEqual(objection([1, 1, 2], [0, 1, 2]), [("move", (0, 1, 2))])

    def test_the_sides_that_readings_stand_on(self):
        # The helper that the other tests lean on, once by hand.
        self.assertEqual(rows_of(("move", (0, 1, 2))), [{0: 1, 1: 0, 2: 2}, {0: 2, 2: 0, 1: 1}])


if __name__ == "__main__":
    unittest.main()
