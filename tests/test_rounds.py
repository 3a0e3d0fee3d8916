"""Promises [2] and [36] to [40]: peermend.rounds."""

import unittest
from functools import lru_cache
from itertools import combinations, product
from random import Random

from helpers import (BAD_PAIRS, FAR_PAIRS_64, FREE_64, PAIRS_64, Case, all_changes, all_states,
                     drawn_state, rows_of, side_by_definition, state_of, subsets)
from peermend import rounds as module
from peermend.errors import Busy, InvalidChange, InvalidImage, NotState
from peermend.kinds import parts
from peermend.rounds import distance, follow, is_plan, plan, round_update, rounds_needed
from peermend.updates import Update

# Each of these shifts every pair of 64 records by one.
SHIFTED_64 = [0] + [x + 1 if x % 2 else x - 1 for x in range(1, 63)] + [63]
RINGED_64 = [63] + SHIFTED_64[1:63] + [0]
BAD_CHANGES = (("tie", (1, 0)), ("tie", (0, 0)), ("tie", (0, 1, 2)), ("knot", (0, 1)), ("tie", ()),
               ("tie", (0, 5)), ("tie", (-1, 0)), ("move", (0, 2, 1)), ("move", (0, 1)),
               ("cross", (0, 1)), ("cross", (1, 0, 2, 3)), ("", (0, 1)))


def other_side(state, change):
    """The state with the change at its other side, from the words of [17], or None."""
    side = side_by_definition(state, change)
    if side is None:
        return None
    found = list(state)
    for record, name in rows_of(change)[1 - side].items():
        found[record] = name
    return found


@lru_cache(maxsize=None)
def neighbours(state):
    changes = all_changes(len(state))
    return tuple(sorted(tuple(found) for found in (other_side(state, change) for change in changes)
                        if found is not None))


@lru_cache(maxsize=None)
def distances(state):
    """The least numbers of changes to all states, by going through all of them."""
    found, layer = {state: 0}, [state]
    while layer:
        reached = []
        for here in layer:
            for there in neighbours(here):
                if there not in found:
                    found[there] = found[here] + 1
                    reached.append(there)
        layer = reached
    return found


def needed_by_words(before, after):
    found = parts(before, after)
    if not found:
        return 0
    simple = all(len(row) == 4 if shape == "ring" else len(row) in (2, 3) for shape, row in found)
    return 1 if simple else 2


def pairs_of_states(most, draw_from):
    for size in range(most + 1):
        yield from product(all_states(size), repeat=2)
    draw = Random(draw_from)
    for size in (7, 8, 9, 12, 17, 31, 48, 63, 64, 64, 64):
        for _ in range(8):
            yield drawn_state(draw, size), drawn_state(draw, size)
    for first, second in product((FREE_64, PAIRS_64, FAR_PAIRS_64, SHIFTED_64, RINGED_64), repeat=2):
        yield first, second
    # Chains and rings of every length, from each end and with mixed records.
    for length in range(2, 65):
        records = list(range(64))
        draw.shuffle(records)
        near = state_of(64, *zip(records[0:length - 1:2], records[1:length:2]))
        far = state_of(64, *zip(records[1:length - 1:2], records[2:length:2]))
        yield near, far
        yield far, near
        if length % 2 == 0:
            far[records[0]], far[records[length - 1]] = records[length - 1], records[0]
            yield near, far


class Interface(Case):

    def test_each_function_is_defined_in_its_file(self):
        self.assert_defined(module, "distance", "round_update", "follow", "plan", "rounds_needed",
                            "is_plan")


class Distance(Case):

    def test_the_least_number_of_changes(self):
        for size in range(7):
            for state in all_states(size):
                found = distances(tuple(state))
                for other in all_states(size):
                    self.assertEqual(distance(state, other), found[tuple(other)])

    def test_each_change_alters_it_by_at_most_one(self):
        for size in range(6):
            for state, goal in product(all_states(size), repeat=2):
                here = distance(state, goal)
                for there in neighbours(tuple(state)):
                    self.assertLessEqual(abs(distance(list(there), goal) - here), 1)

    def test_in_words(self):
        for before, after, many in (([], [], 0), ([0], [0], 0), ([0, 1], [1, 0], 1),
                                    ([1, 0], [1, 0], 0), ([1, 0, 2], [2, 1, 0], 1),
                                    ([1, 0, 3, 2], [3, 2, 1, 0], 1), ([1, 0, 3, 2], [0, 2, 1, 3], 2),
                                    ([1, 0, 3, 2, 5, 4], [5, 2, 1, 4, 3, 0], 2),
                                    ([1, 0, 3, 2, 4], [0, 2, 1, 4, 3], 2)):
            self.assertEqual(distance(before, after), many)
            self.assertEqual(distance(after, before), many)

    def test_tables_of_64_records(self):
        for state, other, many in ((FREE_64, FREE_64, 0), (PAIRS_64, PAIRS_64, 0),
                                   (FREE_64, PAIRS_64, 32), (FREE_64, SHIFTED_64, 31),
                                   (PAIRS_64, SHIFTED_64, 32), (PAIRS_64, RINGED_64, 31),
                                   (SHIFTED_64, RINGED_64, 1), (PAIRS_64, FAR_PAIRS_64, 16),
                                   (FREE_64, FAR_PAIRS_64, 32)):
            self.assertEqual(distance(state, other), many)
            self.assertEqual(distance(other, state), many)

    def test_the_words_of_the_formula(self):
        for before, after in pairs_of_states(5, 36):
            size, inside = len(before), {x for _, row in parts(before, after) for x in row}
            odd = sum(len(row) % 2 for _, row in parts(before, after))
            odd += sum(x not in inside and before[x] == x for x in range(size))
            rings = sum(shape == "ring" for shape, _ in parts(before, after))
            rings += sum(x not in inside and before[x] > x for x in range(size))
            self.assertEqual(2 * distance(before, after), size - odd - 2 * rings)
            self.assertEqual(distance(before, after), distance(after, before))


class Rounds(Case):

    def test_an_empty_round_leads_nowhere(self):
        for state in ([], [0], [1, 0, 2], FREE_64):
            self.assertEqual(round_update(state, []), Update.rest(state))
            self.assertEqual(follow(state, []), [state])
            self.assertEqual(follow(state, [[], []]), [state] * 3)

    def test_all_small_rounds(self):
        for size in range(5):
            changes = all_changes(size)
            for state in all_states(size):
                for many in range(3):
                    for chosen in product(changes, repeat=many):
                        self.assert_round(state, list(chosen))

    def assert_round(self, state, changes):
        self.assertTrue(all(type(change) is tuple for change in changes))
        states = [other_side(state, change) for change in changes]
        records = [record for _, inside in changes for record in inside]
        twice = [record for record in records if records.count(record) > 1]
        if None in states:
            self.assert_error(InvalidChange(), round_update, state, changes)
            self.assert_error(InvalidChange(), follow, state, [changes])
        elif twice:
            self.assert_error(Busy(min(twice)), round_update, state, changes)
            self.assert_error(Busy(min(twice)), follow, state, [changes])
        else:
            after = list(state)
            for found in states:
                for record, name in enumerate(found):
                    if name != state[record]:
                        after[record] = name
            update = round_update(state, changes)
            self.assertIs(type(update), Update)
            self.assertEqual((update.before, update.after), (state, after))
            self.assertEqual(follow(state, [changes]), [state, after])

    def test_the_first_change_that_is_wrong_comes_before_busy(self):
        state = [1, 0, 2, 3, 4]
        for change in BAD_CHANGES + (("tie", (0, 2)), ("move", (2, 0, 1)), ("cross", (0, 1, 2, 3))):
            for changes in ([change], [("tie", (0, 1)), change], [change, ("tie", (0, 1))],
                            [("tie", (2, 3)), ("tie", (2, 4)), change],
                            [change, ("tie", (2, 3)), ("tie", (2, 3))]):
                self.assert_error(InvalidChange(), round_update, state, changes)
                self.assert_error(InvalidChange(), follow, state, [[], changes])

    def test_all_changes_are_tested_against_the_given_state(self):
        # Behind the first change the second one would be at a side, but it is at none before.
        self.assert_error(InvalidChange(), round_update, [0, 1, 2],
                          [("tie", (0, 1)), ("move", (0, 1, 2))])
        self.assert_error(Busy(0), round_update, [0, 1, 2], [("tie", (0, 1)), ("tie", (0, 1))])
        self.assertEqual(follow([0, 1, 2], [[("tie", (0, 1))], [("move", (0, 1, 2))]]),
                         [[0, 1, 2], [1, 0, 2], [2, 1, 0]])

    def test_the_least_common_record(self):
        state = [1, 0, 2, 3, 4, 5]
        for changes, record in (([("tie", (4, 5)), ("tie", (3, 5)), ("tie", (2, 4))], 4),
                                ([("tie", (4, 5)), ("tie", (3, 5)), ("tie", (2, 3))], 3),
                                ([("move", (1, 0, 5)), ("tie", (2, 5))], 5),
                                ([("tie", (2, 3)), ("tie", (4, 5)), ("tie", (0, 1)),
                                  ("move", (0, 1, 5))], 0)):
            self.assert_error(Busy(record), round_update, state, changes)

    def test_the_first_round_that_fails(self):
        self.assert_error(Busy(0), follow, [0, 1, 2],
                          [[("tie", (1, 2))], [("tie", (1, 2))],
                           [("tie", (0, 1)), ("tie", (0, 2))], [("tie", (5, 9))]])
        self.assert_error(InvalidChange(), follow, [0, 1, 2],
                          [[("tie", (1, 2))], [("tie", (0, 1))], [("tie", (0, 1)), ("tie", (0, 2))]])

    def test_states_first(self):
        for state, error in (([1], InvalidImage(0)), ([0, 2], InvalidImage(1)),
                             ([1, 1], NotState(0)), ([0, 1, 1], NotState(2))):
            for changes in ([], [("tie", (0, 1))], [("tie", (0, 9))]):
                self.assert_error(error, round_update, state, changes)
                self.assert_error(error, follow, state, [changes])
            self.assert_error(error, follow, state, [])


class Plans(Case):

    def assert_plan(self, before, after):
        """All that [39] and [40] say of a plan."""
        rounds = plan(before, after)
        self.assertIs(type(rounds), list)
        self.assertEqual(len(rounds), needed_by_words(before, after))
        self.assertEqual(rounds_needed(before, after), len(rounds))
        self.assertTrue(all(type(changes) is list and changes for changes in rounds))
        self.assertEqual(sum(map(len, rounds)), distance(before, after))
        states = follow(before, rounds)
        self.assertEqual(len(states), len(rounds) + 1)
        self.assertEqual((states[0], states[-1]), (before, after))
        self.assertIs(is_plan(before, after, rounds), True)
        return rounds

    def test_all_small_states_and_drawn_large_ones(self):
        for before, after in pairs_of_states(6, 39):
            self.assert_plan(before, after)

    def test_each_part_of_the_first_round_is_a_gain(self):
        for before, after in pairs_of_states(6, 40):
            rounds = plan(before, after)
            if not rounds or len(before) > 40:
                continue
            here = distance(before, after)
            first = rounds[0]
            chosen = subsets(first) if len(first) <= 4 else combinations(first, 2)
            for done in chosen:
                middle = round_update(before, list(done)).after
                self.assertEqual(distance(middle, after), here - len(done))
            self.assert_plan(round_update(before, first[::2]).after, after)

    def test_in_words(self):
        self.assertEqual(plan([1, 0], [1, 0]), [])
        self.assertEqual(plan([0, 1], [1, 0]), [[("tie", (0, 1))]])
        self.assertEqual(plan([1, 0, 2], [0, 2, 1]), [[("move", (1, 0, 2))]])
        self.assertEqual(plan([1, 0, 3, 2], [3, 2, 1, 0]), [[("cross", (0, 1, 2, 3))]])
        self.assertEqual(rounds_needed([1, 0, 3, 2], [0, 2, 1, 3]), 2)
        self.assertEqual(rounds_needed(PAIRS_64, SHIFTED_64), 2)
        self.assertEqual(rounds_needed(PAIRS_64, FAR_PAIRS_64), 1)
        self.assertEqual(rounds_needed(FREE_64, FREE_64), 0)

    def test_what_is_a_plan(self):
        tie, move = ("tie", (0, 1)), ("move", (0, 1, 2))
        for before, after, rounds, expected in (
                ([0, 1], [0, 1], [], True), ([0, 1], [1, 0], [], False),
                ([0, 1], [1, 0], [[tie]], True), ([0, 1], [0, 1], [[tie]], False),
                # More changes and rounds than are needed.
                ([0, 1], [0, 1], [[tie], [tie]], True), ([0, 1], [1, 0], [[tie]] * 3, True),
                ([0, 1, 2], [2, 1, 0], [[tie], [move]], True),
                ([0, 1, 2], [2, 1, 0], [[tie], [move], [move], [move]], True),
                ([0, 1, 2], [2, 1, 0], [[tie], [move], [move]], False),
                # An empty round.
                ([0, 1], [0, 1], [[]], False), ([0, 1], [1, 0], [[], [tie]], False),
                ([0, 1], [1, 0], [[tie], []], False), ([0, 1], [1, 0], [[tie], [], [tie]], False),
                # Changes that overlap.
                ([0, 1], [1, 0], [[tie, tie]], False),
                ([0, 1, 2], [2, 1, 0], [[("tie", (0, 2)), ("tie", (1, 2))]], False),
                # A change at neither side.
                ([0, 1, 2], [2, 1, 0], [[move]], False),
                ([0, 1, 2], [2, 1, 0], [[tie, move]], False),
                ([0, 1, 2], [0, 1, 2], [[move], [move]], False),
                # Two changes in one round, or one after the other.
                ([0, 1, 2, 3], [1, 0, 3, 2], [[tie, ("tie", (2, 3))]], True),
                ([0, 1, 2, 3], [1, 0, 3, 2], [[("tie", (2, 3))], [tie]], True)):
            with self.subTest(before=before, after=after, rounds=rounds):
                self.assertIs(is_plan(before, after, rounds), expected)

    def test_changes_that_are_not_valid(self):
        for change in BAD_CHANGES:
            for rounds in ([[change]], [[("tie", (0, 1))], [change]], [[("tie", (0, 1)), change]],
                           [[change], [("tie", (0, 1))]]):
                self.assertIs(is_plan([0, 1, 2], [1, 0, 2], rounds), False)

    def test_plans_for_other_states(self):
        for before, after in product(all_states(4), repeat=2):
            rounds = plan(before, after)
            for other in all_states(4):
                self.assertIs(is_plan(before, other, rounds), other == after)


class WrongArguments(Case):

    def test_two_states(self):
        for first, second, error in BAD_PAIRS:
            with self.subTest(first=first, second=second):
                for function in (distance, plan, rounds_needed):
                    self.assert_error(error, function, first, second)
                for rounds in ([], [[]], [[("tie", (0, 1))]], [[("tie", (0, 99))]]):
                    self.assert_error(error, is_plan, first, second, rounds)


class Copies(Case):

    def test_no_call_changes_its_arguments(self):
        before, after = [1, 0, 3, 2, 4], [0, 2, 1, 4, 3]
        changes = [("move", (0, 1, 4)), ("tie", (2, 3))]
        rounds = [changes, [("tie", (2, 3))]]
        for call in (lambda: distance(before, after), lambda: plan(before, after),
                     lambda: rounds_needed(before, after), lambda: is_plan(before, after, rounds),
                     lambda: round_update(before, changes), lambda: follow(before, rounds)):
            call()
            self.assertEqual((before, after), ([1, 0, 3, 2, 4], [0, 2, 1, 4, 3]))
            self.assertEqual(changes, [("move", (0, 1, 4)), ("tie", (2, 3))])
            self.assertEqual(rounds, [changes, [("tie", (2, 3))]])

    def test_changing_what_was_returned_has_no_effect(self):
        before, after = [1, 0, 3, 2, 4], [0, 2, 1, 4, 3]
        expected = [[list(changes) for changes in plan(before, after)], follow(before, [[], []])]
        for rounds in (plan(before, after), follow(before, [[], []])):
            rounds[0].append(5)
            rounds.append(5)
        self.assertEqual([plan(before, after), follow(before, [[], []])], expected)
        self.assertEqual(before, [1, 0, 3, 2, 4])
        update = round_update(before, [])
        update.before[0] = 9
        self.assertEqual((before, update.after), ([1, 0, 3, 2, 4], [1, 0, 3, 2, 4]))


if __name__ == "__main__":
    unittest.main()
