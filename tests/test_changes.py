"""Promises [2] and [17] to [19]: peermend.changes."""

import unittest
from itertools import product

from helpers import (FAR_PAIRS_64, FREE_64, PAIRS_64, Case, all_changes, all_images, all_states,
                     rows_of, side_by_definition, state_of)
from peermend import changes
from peermend.changes import (change_of, changes_from, check_change, side_of, sides, states,
                              update_by)
from peermend.counting import count_states
from peermend.errors import InvalidChange, InvalidImage, NotState
from peermend.updates import Update

# (change, what its records show at side 0, at side 1)
SIDES = (
    (("tie", (0, 1)), [(0, 0), (1, 1)], [(0, 1), (1, 0)]),
    (("tie", (2, 9)), [(2, 2), (9, 9)], [(2, 9), (9, 2)]),
    (("move", (0, 1, 2)), [(0, 1), (1, 0), (2, 2)], [(0, 2), (1, 1), (2, 0)]),
    (("move", (1, 0, 4)), [(0, 1), (1, 0), (4, 4)], [(0, 0), (1, 4), (4, 1)]),
    (("move", (7, 2, 5)), [(2, 7), (5, 5), (7, 2)], [(2, 2), (5, 7), (7, 5)]),
    (("cross", (0, 1, 2, 3)), [(0, 1), (1, 0), (2, 3), (3, 2)], [(0, 3), (1, 2), (2, 1), (3, 0)]),
    (("cross", (0, 1, 3, 2)), [(0, 1), (1, 0), (2, 3), (3, 2)], [(0, 2), (1, 3), (2, 0), (3, 1)]),
    (("cross", (0, 2, 1, 3)), [(0, 2), (1, 3), (2, 0), (3, 1)], [(0, 3), (1, 2), (2, 1), (3, 0)]),
    (("cross", (3, 5, 8, 7)), [(3, 5), (5, 3), (7, 8), (8, 7)], [(3, 7), (5, 8), (7, 3), (8, 5)]),
)
# None of these is valid in a table of 5 records.
BAD_CHANGES = (
    ("tie", ()), ("tie", (0,)), ("tie", (0, 1, 2)), ("tie", (1, 0)), ("tie", (1, 1)),
    ("move", ()), ("move", (0, 1)), ("move", (0, 1, 2, 3)), ("move", (0, 2, 1)),
    ("move", (2, 1, 0)), ("move", (0, 0, 1)), ("move", (0, 1, 1)), ("move", (1, 0, 1)),
    ("move", (2, 2, 2)),
    ("cross", ()), ("cross", (0, 1, 2)), ("cross", (0, 1, 2, 3, 4)), ("cross", (1, 0, 2, 3)),
    ("cross", (0, 3, 2, 1)), ("cross", (0, 3, 1, 2)), ("cross", (3, 0, 1, 2)),
    ("cross", (1, 2, 0, 3)), ("cross", (1, 2, 3, 0)), ("cross", (0, 1, 2, 1)),
    ("cross", (0, 1, 1, 2)), ("cross", (0, 0, 1, 2)), ("cross", (0, 1, 2, 2)),
    ("cross", (0, 1, 0, 2)), ("cross", (0, 1, 2, 0)), ("cross", (1, 1, 1, 1)),
    ("", (0, 1)), ("Tie", (0, 1)), ("ties", (0, 1)), ("swap", (0, 1)), ("chain", (0, 1, 2)),
    ("claim", (0, 1)), ("hook", (0, 1, 2)), ("wheel", (0, 1, 2, 3)), ("free", (0,)),
    ("tie", (-1, 0)), ("tie", (0, 5)), ("tie", (5, 6)), ("tie", (-2, -1)), ("tie", (0, 10 ** 20)),
    ("move", (-1, 0, 1)), ("move", (5, 0, 1)), ("move", (1, -1, 0)), ("move", (1, 0, 5)),
    ("move", (-10 ** 20, 0, 1)), ("cross", (-1, 0, 1, 2)), ("cross", (0, 1, 5, 2)),
    ("cross", (0, 1, 2, 5)), ("cross", (0, 5, 2, 6)), ("cross", (0, -1, 2, 3)),
)


class Interface(Case):

    def test_each_function_is_defined_in_its_file(self):
        self.assert_defined(changes, "check_change", "sides", "side_of", "update_by", "change_of",
                            "changes_from", "states")

    def test_the_example(self):
        self.assertEqual(sides(("move", (1, 0, 4))),
                         ([(0, 1), (1, 0), (4, 4)], [(0, 0), (1, 4), (4, 1)]))


class CheckChange(Case):

    def test_all_words_and_records_of_small_tables(self):
        for size in range(6):
            valid = set(all_changes(size))
            for word, length in product(("tie", "move", "cross"), range(1, 5)):
                for records in product(range(-1, size + 1), repeat=length):
                    change = (word, records)
                    if change in valid:
                        self.assertIsNone(check_change(change, size))
                    else:
                        self.assert_error(InvalidChange(), check_change, change, size)

    def test_bad_changes(self):
        for change in BAD_CHANGES:
            with self.subTest(change=change):
                self.assert_error(InvalidChange(), check_change, change, 5)
                self.assert_error(InvalidChange(), side_of, [0, 1, 2, 3, 4], change)
                self.assert_error(InvalidChange(), update_by, [0, 1, 2, 3, 4], change)

    def test_the_size_counts(self):
        for change, least in ((("tie", (0, 1)), 2), (("tie", (3, 63)), 64),
                              (("move", (4, 0, 1)), 5), (("move", (1, 0, 63)), 64),
                              (("cross", (0, 2, 9, 3)), 10), (("cross", (60, 62, 61, 63)), 64)):
            for size in range(65):
                if size < least:
                    self.assert_error(InvalidChange(), check_change, change, size)
                else:
                    self.assertIsNone(check_change(change, size))


class Sides(Case):

    def test_sides_in_words(self):
        for change, first, second in SIDES:
            self.assertEqual(sides(change), (first, second))

    def test_all_small_changes(self):
        for change in all_changes(6):
            found = sides(change)
            self.assertEqual((type(found), [type(side) for side in found]), (tuple, [list, list]))
            for side, row in zip(found, rows_of(change)):
                self.assertEqual(side, sorted(row.items()))

    def test_side_of_all_small_images(self):
        for size in range(5):
            given = all_changes(size)
            for image in all_images(size):
                for change in given:
                    self.assertEqual(side_of(image, change), side_by_definition(image, change))

    def test_side_of_in_words(self):
        self.assertEqual(side_of([0, 1, 3, 2], ("tie", (0, 1))), 0)
        self.assertEqual(side_of([0, 1, 3, 2], ("tie", (2, 3))), 1)
        self.assertIsNone(side_of([0, 1, 3, 2], ("tie", (1, 2))))
        self.assertEqual(side_of([1, 0, 2, 2], ("move", (0, 1, 2))), 0)
        self.assertEqual(side_of([2, 1, 0, 0], ("move", (0, 1, 2))), 1)
        self.assertIsNone(side_of([1, 0, 0, 3], ("move", (0, 1, 2))))
        self.assertIsNone(side_of(PAIRS_64, ("cross", (0, 2, 63, 62))))
        self.assertEqual(side_of(PAIRS_64, ("cross", (0, 1, 63, 62))), 0)
        self.assertEqual(side_of(PAIRS_64, ("cross", (0, 1, 62, 63))), 0)
        self.assertEqual(side_of(FAR_PAIRS_64, ("cross", (0, 1, 62, 63))), 1)

    def test_bad_entries_come_before_a_bad_change(self):
        for image, record in (([2, 0], 0), ([0, -1], 1), ([0, 1, 3], 2)):
            self.assert_error(InvalidImage(record), side_of, image, ("tie", (0, 1)))
            self.assert_error(InvalidImage(record), side_of, image, ("tie", (1, 0)))
            self.assert_error(InvalidImage(record), side_of, image, ("what", (0, 1)))
            self.assert_error(InvalidImage(record), update_by, image, ("tie", (1, 0)))


class UpdateBy(Case):

    def test_all_small_states_and_changes(self):
        for size in range(6):
            given = all_changes(size)
            for state in all_states(size):
                for change in given:
                    side = side_by_definition(state, change)
                    if side is None:
                        self.assert_error(InvalidChange(), update_by, state, change)
                        continue
                    other = rows_of(change)[1 - side]
                    update = update_by(state, change)
                    self.assertIs(type(update), Update)
                    self.assertEqual(update.before, state)
                    self.assertEqual(update.after, [other.get(x, state[x]) for x in range(size)])
                    self.assertEqual(update.records, sorted(change[1]))
                    self.assertEqual(change_of(update), change)

    def test_in_words(self):
        self.assertEqual(update_by([0, 1], ("tie", (0, 1))), Update([0, 1], [1, 0]))
        self.assertEqual(update_by([1, 0], ("tie", (0, 1))), Update([1, 0], [0, 1]))
        self.assertEqual(update_by([1, 0, 2, 4, 3], ("move", (0, 1, 2))),
                         Update([1, 0, 2, 4, 3], [2, 1, 0, 4, 3]))
        self.assertEqual(update_by([2, 1, 0], ("move", (0, 1, 2))), Update([2, 1, 0], [1, 0, 2]))
        self.assertEqual(update_by(PAIRS_64, ("cross", (0, 1, 62, 63))).after,
                         [63, 62] + PAIRS_64[2:62] + [1, 0])

    def test_the_state_is_checked_before_the_change(self):
        for change in (("tie", (0, 1)), ("tie", (1, 0)), ("what", (0,)), ("move", (0, 0, 0))):
            self.assert_error(NotState(0), update_by, [1, 1], change)
            self.assert_error(NotState(2), update_by, [0, 1, 1], change)
            self.assert_error(InvalidImage(1), update_by, [1, 2], change)
            self.assert_error(InvalidImage(2), update_by, [1, 1, 3], change)

    def test_a_state_at_neither_side(self):
        for state, change in (
            ([1, 0, 2], ("tie", (0, 2))), ([0, 1, 2], ("move", (0, 1, 2))),
            ([0, 2, 1], ("move", (0, 1, 2))), ([1, 0, 3, 2], ("move", (0, 1, 2))),
            ([0, 1, 2, 3], ("cross", (0, 1, 2, 3))), ([2, 3, 0, 1], ("cross", (0, 1, 2, 3))),
            ([1, 0, 2, 3], ("cross", (0, 1, 2, 3))),
        ):
            self.assert_error(InvalidChange(), update_by, state, change)

    def test_the_update_keeps_lists_of_its_own(self):
        state = [1, 0, 2]
        update = update_by(state, ("tie", (0, 1)))
        state[0] = 2
        self.assertEqual(update, Update([1, 0, 2], [0, 1, 2]))


class ChangeOf(Case):

    def test_all_small_updates(self):
        for size in range(6):
            by_states = {}
            for change in all_changes(size):
                first, second = rows_of(change)
                records = tuple(sorted(first))
                for old, new in ((first, second), (second, first)):
                    key = (records, tuple(old[x] for x in records), tuple(new[x] for x in records))
                    self.assertNotIn(key, by_states)
                    by_states[key] = change
            for before, after in product(all_states(size), repeat=2):
                update = Update(before, after)
                records = tuple(update.records)
                key = (records, tuple(before[x] for x in records),
                       tuple(after[x] for x in records))
                found = change_of(update)
                self.assertEqual(found, by_states.get(key))
                self.check_the_kind(update, found)

    def check_the_kind(self, update, found):
        word = found[0] if found else None
        self.assertEqual(word == "tie", update.kind in ((("chain", 2, 1),), (("chain", 2, -1),)))
        self.assertEqual(word == "move", update.kind == (("chain", 3, 0),))
        self.assertEqual(word == "cross", update.kind == (("ring", 4, 0),))
        if found:
            self.assertEqual((type(found), type(found[1])), (tuple, tuple))

    def test_in_words(self):
        for before, after, change in (
            ([0, 1], [1, 0], ("tie", (0, 1))),
            ([2, 1, 0], [0, 1, 2], ("tie", (0, 2))),
            ([1, 0, 2], [2, 1, 0], ("move", (0, 1, 2))),
            ([2, 1, 0], [0, 2, 1], ("move", (2, 0, 1))),
            ([1, 0, 2], [0, 2, 1], ("move", (1, 0, 2))),
            ([1, 0, 3, 2], [3, 2, 1, 0], ("cross", (0, 1, 2, 3))),
            ([3, 2, 1, 0], [1, 0, 3, 2], ("cross", (0, 1, 2, 3))),
            ([3, 2, 1, 0], [2, 3, 0, 1], ("cross", (0, 2, 1, 3))),
            ([2, 3, 0, 1], [1, 0, 3, 2], ("cross", (0, 1, 3, 2))),
        ):
            self.assertEqual(change_of(Update(before, after)), change)

    def test_other_kinds(self):
        for before, after in (
            ([], []), ([0], [0]), ([1, 0], [1, 0]),
            ([0, 1, 2, 3], [1, 0, 3, 2]), ([1, 0, 2, 3], [0, 1, 3, 2]),
            ([1, 0, 3, 2], [0, 2, 1, 3]), ([0, 2, 1, 3], [1, 0, 3, 2]),
            ([1, 0, 3, 2, 4], [0, 2, 1, 4, 3]),
            ([1, 0, 3, 2, 5, 4], [5, 2, 1, 4, 3, 0]),
            (FREE_64, PAIRS_64), (PAIRS_64, FAR_PAIRS_64),
            ([1, 0, 3, 2, 5, 4, 7, 6], [3, 2, 1, 0, 7, 6, 5, 4]),
            ([1, 0, 2, 4, 3, 5], [2, 1, 0, 5, 4, 3]),
        ):
            self.assertIsNone(change_of(Update(before, after)))


class ChangesFrom(Case):

    def test_all_small_states(self):
        for size in range(7):
            given = all_changes(size)
            for state in all_states(size):
                expected = [change for change in given
                            if side_by_definition(state, change) is not None]
                self.assertEqual(list(changes_from(state)), expected)

    def test_all_changes_of_the_states_that_one_can_reach(self):
        for state in all_states(5):
            reached = {tuple(update_by(state, change).after) for change in changes_from(state)}
            expected = {tuple(after) for after in all_states(5)
                        if change_of(Update(state, after)) is not None}
            self.assertEqual(reached, expected)

    def test_in_words(self):
        self.assertEqual(list(changes_from([])), [])
        self.assertEqual(list(changes_from([0])), [])
        self.assertEqual(list(changes_from([0, 1])), [("tie", (0, 1))])
        self.assertEqual(list(changes_from([1, 0])), [("tie", (0, 1))])
        self.assertEqual(list(changes_from([1, 0, 2])),
                         [("move", (0, 1, 2)), ("move", (1, 0, 2)), ("tie", (0, 1))])
        self.assertEqual(list(changes_from([3, 2, 1, 0])),
                         [("cross", (0, 1, 2, 3)), ("cross", (0, 2, 1, 3)), ("tie", (0, 3)),
                          ("tie", (1, 2))])

    def test_large_states(self):
        mixed = state_of(64, *[(x, 63 - x) for x in range(5, 21)])
        for state, ties, moves, crosses in ((FREE_64, 2016, 0, 0), (PAIRS_64, 32, 0, 992),
                                            (FAR_PAIRS_64, 32, 0, 992),
                                            (mixed, 496 + 16, 2 * 16 * 32, 16 * 15)):
            found = list(changes_from(state))
            self.assertEqual(found, sorted(set(found)))
            words = [word for word, _ in found]
            self.assertEqual([words.count(word) for word in ("tie", "move", "cross")],
                             [ties, moves, crosses])
            for change in found:
                self.assertIsNone(check_change(change, 64))
                self.assertIsNotNone(side_by_definition(state, change))

    def test_the_state_is_checked_when_the_first_value_is_asked_for(self):
        for state, error in (([1, 1], NotState(0)), ([0, 2], InvalidImage(1)),
                             ([1, 2, 0], NotState(0))):
            found = changes_from(state)
            self.assert_error(error, next, found)


class States(Case):

    def test_small_sizes(self):
        for size in range(6):
            self.assertEqual(list(states(size)), all_states(size))
        self.assertEqual(list(states(0)), [[]])
        self.assertEqual(list(states(3)), [[0, 1, 2], [0, 2, 1], [1, 0, 2], [2, 1, 0]])

    def test_sizes_below_zero(self):
        for size in range(-5, 0):
            self.assertEqual(list(states(size)), [])

    def test_ascending_and_as_many_as_there_are(self):
        for size in range(10):
            found = list(states(size))
            self.assertEqual(len(found), count_states(size))
            self.assertEqual(len({tuple(state) for state in found}), len(found))
            self.assertEqual(found, sorted(found))
            for state in found:
                self.assertIs(type(state), list)
                self.assertEqual([state[name] for name in state], list(range(size)))

    def test_each_value_is_a_list_of_its_own(self):
        for size in range(5):
            found = []
            for state in states(size):
                found.append(list(state))
                state.append(9)
                state[0] = 9
            self.assertEqual(found, all_states(size))
            self.assertEqual(list(states(size)), all_states(size))


class Copies(Case):

    def test_no_call_changes_its_arguments(self):
        state = [1, 0, 2, 4, 3]
        update = Update(state, [2, 1, 0, 4, 3])
        side_of(state, ("tie", (0, 2)))
        update_by(state, ("tie", (0, 1)))
        list(changes_from(state))
        change_of(update)
        with self.assertRaises(InvalidChange):
            update_by(state, ("tie", (0, 2)))
        self.assertEqual(state, [1, 0, 2, 4, 3])
        self.assertEqual(update, Update([1, 0, 2, 4, 3], [2, 1, 0, 4, 3]))

    def test_changing_what_was_returned_has_no_effect(self):
        for change, first, second in SIDES:
            found = sides(change)
            found[0].append((9, 9))
            found[1].clear()
            self.assertEqual(sides(change), (first, second))
        update = update_by([0, 1], ("tie", (0, 1)))
        update.after[0] = 0
        self.assertEqual(update_by([0, 1], ("tie", (0, 1))), Update([0, 1], [1, 0]))


if __name__ == "__main__":
    unittest.main()
