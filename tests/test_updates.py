"""Promises [2], [10] to [13] and [16]: peermend.updates."""

import unittest
from itertools import product

from helpers import (BAD_PAIRS, FAR_PAIRS_64, FREE_64, PAIRS_64, Case, all_images, all_states,
                     state_of)
from peermend import updates
from peermend.errors import (Busy, InvalidImage, InvalidKind, InvalidRecord, InvalidUpdate, NotState,
                             UnequalSizes)
from peermend.images import check_state
from peermend.kinds import kind_of, reverse_kind, sample_rows
from peermend.updates import Update, sample

FIVE = Update([1, 0, 2, 4, 3], [2, 1, 0, 4, 3])


def all_updates(size):
    return [Update(before, after) for before, after in product(all_states(size), repeat=2)]


def torn_by_definition(update, done):
    return [update.after[x] if x in done else update.before[x] for x in range(len(update.before))]


class Interface(Case):

    def test_each_name_is_defined_in_its_file(self):
        self.assert_defined(updates, "Update", "sample")
        for name in ("torn", "torn_images", "fits", "outcome", "rest", "joint", "records", "kind",
                     "__neg__", "__add__", "__eq__", "__len__", "__contains__", "__repr__"):
            self.assertIn(name, vars(Update))
        self.assertIsInstance(vars(Update)["rest"], classmethod)
        self.assertIsInstance(vars(Update)["joint"], staticmethod)
        self.assertIsInstance(vars(Update)["records"], property)
        self.assertIsInstance(vars(Update)["kind"], property)

    def test_the_example(self):
        update = Update([1, 0, 2], [2, 1, 0])
        self.assertEqual(
            [update.records, update.kind, update.torn(2), -update == Update([2, 1, 0], [1, 0, 2])],
            [[0, 1, 2], (("chain", 3, 0),), [1, 0, 0], True])


class Making(Case):

    def test_the_states(self):
        for before, after in product(all_states(4), repeat=2):
            update = Update(before, after)
            self.assert_list(update.before, before)
            self.assert_list(update.after, after)

    def test_wrong_states(self):
        for first, second, error in BAD_PAIRS:
            with self.subTest(first=first, second=second):
                self.assert_error(error, Update, first, second)

    def test_an_update_keeps_lists_of_its_own(self):
        before, after = [1, 0, 2], [2, 1, 0]
        update = Update(before, after)
        before[0] = 7
        after.append(8)
        self.assertEqual((update.before, update.after), ([1, 0, 2], [2, 1, 0]))
        self.assertEqual(update.records, [0, 1, 2])
        state = [1, 0]
        still = Update(state, state)
        self.assertIsNot(still.before, still.after)

    def test_records(self):
        for size in range(5):
            for update in all_updates(size):
                records = [x for x in range(size) if update.before[x] != update.after[x]]
                self.assert_list(update.records, records)
                self.assertEqual(len(update), len(records))
                for record in records:
                    self.assertIn(update.before[record], records)
                    self.assertIn(update.after[record], records)
        self.assertEqual(Update([], []).records, [])
        self.assertEqual(Update(PAIRS_64, FREE_64).records, FREE_64)

    def test_kind(self):
        for size in range(5):
            for update in all_updates(size):
                self.assertEqual(update.kind, kind_of(update.before, update.after))
        self.assertEqual(Update(FREE_64, PAIRS_64).kind, (("chain", 2, 1),) * 32)
        self.assertEqual(Update(FAR_PAIRS_64, PAIRS_64).kind, (("ring", 4, 0),) * 16)


class Torn(Case):

    def test_no_some_and_all_records(self):
        self.assert_list(FIVE.torn(), FIVE.before)
        self.assert_list(FIVE.torn(0), [2, 0, 2, 4, 3])
        self.assert_list(FIVE.torn(2, 1), [1, 1, 0, 4, 3])
        self.assert_list(FIVE.torn(0, 1, 2), FIVE.after)
        self.assert_list(Update.rest([1, 0]).torn(), [1, 0])
        self.assert_list(Update([], []).torn(), [])

    def test_doubles_count_once(self):
        self.assertEqual(FIVE.torn(1, 1), FIVE.torn(1))
        self.assertEqual(FIVE.torn(2, 0, 2, 0, 0), FIVE.torn(0, 2))

    def test_the_first_stranger_counts(self):
        for done, stranger in (
            ((3,), 3), ((4, 3), 4), ((0, 3, 4), 3), ((0, 1, 2, 4), 4), ((-1,), -1), ((-5, 3), -5),
            ((5,), 5), ((0, 5, -1), 5), ((64,), 64), ((2, 2, 10 ** 30), 10 ** 30),
            ((3, 3), 3), ((-10 ** 30,), -10 ** 30),
        ):
            self.assert_error(InvalidRecord(stranger), FIVE.torn, *done)
        self.assert_error(InvalidRecord(0), Update.rest([0, 1]).torn, 0)
        self.assert_error(InvalidRecord(0), Update([], []).torn, 0)

    def test_torn_images_of_all_small_updates(self):
        for size in range(5):
            for update in all_updates(size):
                records = update.records
                expected = []
                for k in range(2 ** len(records)):
                    done = [x for i, x in enumerate(records) if (k >> i) % 2]
                    expected.append(torn_by_definition(update, done))
                    self.assertEqual(update.torn(*done), expected[-1])
                self.assertEqual(list(update.torn_images()), expected)

    def test_torn_images_in_words(self):
        self.assertEqual(list(Update([0, 1, 2], [2, 1, 0]).torn_images()),
                         [[0, 1, 2], [2, 1, 2], [0, 1, 0], [2, 1, 0]])
        self.assertEqual(list(Update([0, 1], [0, 1]).torn_images()), [[0, 1]])
        self.assertEqual(list(Update([], []).torn_images()), [[]])

    def test_ten_records(self):
        update = Update(state_of(12, *[(x, x + 1) for x in range(1, 11, 2)]), list(range(12)))
        found = list(update.torn_images())
        self.assertEqual(len(found), 1024)
        self.assertEqual((found[0], found[-1]), (update.before, update.after))
        self.assertEqual(found[1], update.torn(1))
        self.assertEqual(found[1 << 9], update.torn(10))
        self.assertEqual(found[0b1000000101], update.torn(1, 3, 10))

    def test_torn_images_is_a_generator_of_lists_of_its_own(self):
        update = Update([0, 1], [1, 0])
        images = update.torn_images()
        self.assertIs(iter(images), images)
        next(images).append(4)
        self.assertEqual(next(images), [1, 1])
        self.assertEqual(len(list(update.torn_images())), 4)


class Outcomes(Case):

    def fits_by_definition(self, update, image):
        return len(image) == len(update.before) and all(
            image[x] in (update.before[x], update.after[x])
            for x in range(len(image)) if update.before[x] != update.after[x])

    def outcome_by_definition(self, update, image):
        if not self.fits_by_definition(update, image):
            return "foreign"
        records = [x for x in range(len(image)) if update.before[x] != update.after[x]]
        if [image[x] for x in records] == [update.before[x] for x in records]:
            return "undone"
        if [image[x] for x in records] == [update.after[x] for x in records]:
            return "done"
        return "torn"

    def test_all_small_updates_and_images(self):
        for size in range(5):
            given = all_images(size)
            for update in all_updates(size):
                for image in given:
                    self.assertIs(update.fits(image), self.fits_by_definition(update, image))
                    self.assertEqual(update.outcome(image),
                                     self.outcome_by_definition(update, image))

    def test_foreign_names_on_and_off_the_records(self):
        for image, word in (
            ([1, 0, 2, 4, 3], "undone"), ([2, 1, 0, 4, 3], "done"), ([2, 0, 2, 4, 3], "torn"),
            ([1, 0, 2, 0, 0], "undone"), ([2, 1, 0, 3, 4], "done"), ([1, 1, 0, 1, 1], "torn"),
            ([0, 0, 2, 4, 3], "foreign"), ([1, 2, 2, 4, 3], "foreign"), ([1, 0, 3, 4, 3], "foreign"),
        ):
            self.assertEqual(FIVE.outcome(image), word)
            self.assertIs(FIVE.fits(image), word != "foreign")

    def test_images_of_other_sizes(self):
        for image in ([], [0], [1, 0, 2, 3], [1, 0, 2, 4, 3, 5], FREE_64):
            self.assertIs(FIVE.fits(image), False)
            self.assertEqual(FIVE.outcome(image), "foreign")
        self.assertIs(Update.rest([0, 1]).fits([0]), False)
        self.assertEqual(Update.rest([]).outcome([0]), "foreign")

    def test_bad_entries_come_first_against_the_length_of_the_image(self):
        for image, record in (([5, 0, 2, 4, 3], 0), ([1, 0, 2, 4, -1], 4), ([1], 0),
                              ([1, 0, 2, 4], 3), ([1, 0, 2, 4, 3, 6], 5), ([0, 1, 2] + [70], 3)):
            for update in (FIVE, Update.rest([0]), Update([], [])):
                self.assert_error(InvalidImage(record), update.fits, image)
                self.assert_error(InvalidImage(record), update.outcome, image)

    def test_an_update_without_records(self):
        update = Update.rest([1, 0, 2])
        for image in all_images(3):
            self.assertIs(update.fits(image), True)
            self.assertEqual(update.outcome(image), "undone")
        self.assertEqual(Update([], []).outcome([]), "undone")


class Operators(Case):

    def test_minus(self):
        for size in range(5):
            for update in all_updates(size):
                back = -update
                self.assertEqual((back.before, back.after), (update.after, update.before))
                self.assertEqual(back.kind, reverse_kind(update.kind))
                self.assertEqual(-back, update)

    def test_plus_for_all_small_updates(self):
        for size in range(4):
            for u, v in product(all_updates(size), repeat=2):
                common = [x for x in u.records if x in v.records]
                if u.before != v.before:
                    self.assert_error(InvalidUpdate(), lambda: u + v)
                elif common:
                    self.assert_error(Busy(common[0]), lambda: u + v)
                else:
                    total = u + v
                    after = [u.after[x] if x in u.records else v.after[x] for x in range(size)]
                    self.assertEqual((total.before, total.after), (u.before, after))

    def test_plus_in_words(self):
        state = [1, 0, 2, 4, 3, 5]
        move = Update(state, [2, 1, 0, 4, 3, 5])
        untie = Update(state, [1, 0, 2, 3, 4, 5])
        self.assertEqual(move + untie, Update(state, [2, 1, 0, 3, 4, 5]))
        self.assertEqual(untie + move, move + untie)
        self.assertEqual(move + Update.rest(state), move)
        self.assertEqual((move + untie).records, [0, 1, 2, 3, 4])
        self.assertEqual((move + untie).kind, (("chain", 2, -1), ("chain", 3, 0)))

    def test_plus_raises_invalid_update_before_busy(self):
        self.assert_error(InvalidUpdate(), lambda: Update([0, 1], [1, 0]) + Update([1, 0], [0, 1]))
        self.assert_error(InvalidUpdate(), lambda: Update([0, 1], [1, 0]) + Update([0], [0]))
        self.assert_error(InvalidUpdate(), lambda: Update([], []) + Update([0], [0]))

    def test_plus_names_the_least_common_record(self):
        u = Update([0, 1, 2, 4, 3], [0, 2, 1, 3, 4])
        v = Update([0, 1, 2, 4, 3], [4, 1, 3, 2, 0])
        self.assert_error(Busy(2), lambda: u + v)
        self.assert_error(Busy(2), lambda: v + u)
        self.assert_error(Busy(1), lambda: u + u)

    def test_plus_takes_updates_only(self):
        for other in (None, 1, [0, 1], ([1, 0], [0, 1])):
            with self.assertRaises(TypeError):
                Update([0, 1], [1, 0]) + other

    def test_plus_changes_neither(self):
        u, v = Update([0, 1, 2, 3], [1, 0, 2, 3]), Update([0, 1, 2, 3], [0, 1, 3, 2])
        total = u + v
        total.after[0] = 9
        total.before.append(9)
        self.assertEqual(repr(u), "Update([0, 1, 2, 3], [1, 0, 2, 3])")
        self.assertEqual(repr(v), "Update([0, 1, 2, 3], [0, 1, 3, 2])")

    def test_equality(self):
        for u, v in product(all_updates(3), repeat=2):
            same = (u.before, u.after) == (v.before, v.after)
            self.assertIs(u == v, same)
            self.assertIs(u != v, not same)
        self.assertIs(Update([0, 1], [1, 0]) == Update([0, 1], [1, 0]), True)
        self.assertIs(Update([0], [0]) == Update([0, 1], [0, 1]), False)
        self.assertIs(Update([], []) == Update([], []), True)
        for other in (None, 0, "Update([0], [0])", [[0], [0]], ([0], [0])):
            self.assertIs(Update([0], [0]) == other, False)

    def test_len(self):
        self.assertEqual([len(Update([], [])), len(Update.rest(PAIRS_64)), len(FIVE),
                          len(Update(PAIRS_64, FREE_64))], [0, 0, 3, 64])

    def test_in(self):
        for size in range(4):
            for update in all_updates(size):
                for x in range(-size - 1, size + 2):
                    differs = 0 <= x < size and update.before[x] != update.after[x]
                    self.assertIs(x in update, differs)
        for stranger in (3, 4, 5, -1, -3, -5, 64, 10 ** 40, -10 ** 40):
            self.assertIs(stranger in FIVE, False)
            self.assertIs(stranger not in FIVE, True)

    def test_repr(self):
        self.assertEqual(repr(Update([0, 1], [1, 0])), "Update([0, 1], [1, 0])")
        self.assertEqual(repr(Update([], [])), "Update([], [])")
        self.assertEqual(repr(FIVE), "Update([1, 0, 2, 4, 3], [2, 1, 0, 4, 3])")


class RestAndJoint(Case):

    def test_rest(self):
        for state in all_states(4):
            update = Update.rest(state)
            self.assertIs(type(update), Update)
            self.assertEqual((update.before, update.after, update.records, update.kind),
                             (state, state, [], ()))

    def test_rest_of_what_is_no_state(self):
        for image in all_images(3) + [[3], [0, -1], [1, 1, 3]]:
            try:
                check_state(image)
            except (InvalidImage, NotState) as error:
                self.assert_error(error, Update.rest, image)

    def test_rest_copies_its_state(self):
        state = [1, 0]
        update = Update.rest(state)
        state[0] = 0
        update.before[1] = 1
        self.assertEqual((update.before, update.after), ([1, 1], [1, 0]))

    def test_joint_of_none_and_one(self):
        self.assert_error(InvalidUpdate(), Update.joint)
        for update in (FIVE, -FIVE, Update.rest([1, 0]), Update([], [])):
            self.assertEqual(Update.joint(update), update)
            self.assertIs(type(Update.joint(update)), Update)

    def test_joint_of_many(self):
        state = list(range(64))
        ties = [Update(state, state_of(64, (x, 63 - x))) for x in range(32)]
        self.assertEqual(Update.joint(*ties), Update(state, FAR_PAIRS_64))
        self.assertEqual(Update.joint(*ties[::-1]), Update(state, FAR_PAIRS_64))
        self.assertEqual(Update.joint(ties[3], Update.rest(state), ties[5]), ties[3] + ties[5])

    def test_joint_raises_for_the_first_sum_that_fails(self):
        a = Update([0, 1, 2, 3], [1, 0, 2, 3])
        b = Update([0, 1, 2, 3], [0, 1, 3, 2])
        c = Update([0, 1, 2, 3], [2, 1, 0, 3])
        other = Update([1, 0, 2, 3], [0, 1, 2, 3])
        self.assert_error(Busy(0), Update.joint, a, b, c)
        self.assert_error(Busy(0), Update.joint, a, c, other)
        self.assert_error(InvalidUpdate(), Update.joint, a, other, c)
        self.assert_error(InvalidUpdate(), Update.joint, a, b, Update([0], [0]))
        self.assert_error(Busy(2), Update.joint, b, c)
        self.assert_error(Busy(0), Update.joint, a, b, a)


class Samples(Case):

    def test_samples_have_the_rows_of_the_kind(self):
        for kind in ((), (("chain", 2, 1),), (("chain", 2, -1),), (("chain", 3, 0),),
                     (("ring", 4, 0),), (("chain", 2, 1), ("chain", 7, 0), ("ring", 6, 0)),
                     (("ring", 64, 0),), (("chain", 2, -1),) * 32):
            update = sample(kind)
            self.assertIs(type(update), Update)
            self.assertEqual((update.before, update.after), sample_rows(kind))
            self.assertEqual(update.kind, kind)
            self.assertEqual(update.records, list(range(len(update.before))))

    def test_invalid_kinds(self):
        for kind in ((("chain", 1, 0),), (("ring", 2, 0),), (("chain", 2, 0),), (("row", 2, 1),),
                     (("chain", 3, 0), ("chain", 2, 1)), (("chain", 2),), (("ring", 4, 0, 0),)):
            self.assert_error(InvalidKind(), sample, kind)


class Copies(Case):

    def test_no_call_changes_its_arguments_or_the_update(self):
        update = Update([1, 0, 2, 4, 3], [2, 1, 0, 4, 3])
        image = [2, 0, 2, 4, 4]
        for call in (lambda: update.torn(0, 2), lambda: list(update.torn_images()),
                     lambda: update.fits(image), lambda: update.outcome(image),
                     lambda: update.records, lambda: update.kind, lambda: -update,
                     lambda: update + Update.rest(update.before), lambda: 3 in update,
                     lambda: Update.joint(update), lambda: len(update), lambda: repr(update)):
            call()
            self.assertEqual(update, FIVE)
            self.assertEqual(image, [2, 0, 2, 4, 4])
        for call in (lambda: update.torn(0, 3), lambda: update + update, lambda: update + -update,
                     lambda: update.fits([9])):
            with self.assertRaises((InvalidRecord, Busy, InvalidUpdate, InvalidImage)):
                call()
            self.assertEqual(update, FIVE)

    def test_changing_what_was_returned_has_no_effect(self):
        update = Update([1, 0, 2, 4, 3], [2, 1, 0, 4, 3])
        update.records.append(4)
        self.assertEqual(update.records, [0, 1, 2])
        for image in (update.torn(), update.torn(0, 1, 2), *update.torn_images()):
            image[0] = 4
            image.append(5)
        self.assertEqual(update, FIVE)
        self.assertEqual(update.torn(), FIVE.before)
        back = -update
        back.before[0] = 0
        back.after[0] = 0
        self.assertEqual(update, FIVE)
        total = Update.joint(update)
        total.before[0] = total.after[0] = 0
        self.assertEqual(update, FIVE)


if __name__ == "__main__":
    unittest.main()
