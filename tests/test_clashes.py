"""Promises [2] and [28] to [30]: peermend.clashes."""

import unittest
from itertools import permutations, product
from random import Random

from helpers import (Case, all_changes, all_kinds, all_repairable, all_states, drawn_state,
                     repair_by_table, side_by_definition, subsets, words_of)
from peermend import clashes
from peermend.changes import changes_from, update_by
from peermend.clashes import Clash, first_clash, is_safe, kind_clash
from peermend.errors import InvalidKind
from peermend.images import check_state
from peermend.kinds import kind_of
from peermend.pieces import is_repairable
from peermend.repair import repair
from peermend.rules import Rules
from peermend.updates import Update

ALL_RULES = [Rules.numbered(number) for number in range(32)]
SAFE = ((), (("chain", 2, 1),), (("chain", 2, -1),), (("chain", 3, 0),), (("ring", 4, 0),))
LARGE = (
    (("chain", 64, 1),), (("chain", 64, -1),), (("chain", 63, 0),), (("ring", 64, 0),),
    (("chain", 61, 0),), (("ring", 62, 0),), (("chain", 2, -1),) * 32, (("chain", 2, 1),) * 32,
    (("chain", 2, -1),) * 16 + (("chain", 2, 1),) * 16, (("ring", 4, 0),) * 16,
    (("chain", 3, 0),) * 21, (("chain", 32, -1), ("ring", 32, 0)),
    (("chain", 2, 1), ("chain", 3, 0), ("chain", 9, 0), ("chain", 30, -1), ("ring", 20, 0)),
    (("chain", 31, 0), ("chain", 33, 0)), (("ring", 6, 0), ("ring", 58, 0)),
)
BAD_KINDS = (
    (("chain", 1, 0),), (("chain", 2, 0),), (("chain", 3, 1),), (("ring", 2, 0),),
    (("ring", 5, 0),), (("ring", 4, 1),), (("chain", 4, 2),), (("loop", 4, 0),),
    (("ring", 4, 0), ("chain", 2, 1)), (("chain", 2, 1), ("chain", 2, -1)), (("chain", 0, 0),),
    (("chain", 3, 0), ("chain", 2, 1)), (("ring", 0, 0),), (("chain", -2, 1),),
)
HOLDING = (
    # Nobody can tell which of the two writers was at work.
    (([0, 1], [1, 2]), ([0, 2], [1, 1]), [0, 1]),
    # The second one is at rest.
    (([0, 0], [1, 1]), ([0, 1], [0, 1]), [0, 1]),
    # Rows are any lists of integers.
    (([7, -3, 5], [8, 9, 5]), ([8, -3, 6], [7, 70, 5]), [7, -3, 5]),
)


def holds_by_words(first, second, image):
    """The words of [28]."""
    rows = [*first, *second]
    return (all(len(row) == len(image) for row in rows)
            and all(image[x] in (first[0][x], first[1][x]) for x in range(len(image)))
            and all(image[x] in (second[0][x], second[1][x]) for x in range(len(image)))
            and all(one != other for one, other in product(first, second)))


class Interface(Case):

    def test_each_name_is_defined_in_its_file(self):
        self.assert_defined(clashes, "Clash", "is_safe", "kind_clash", "first_clash")
        for name in ("__init__", "holds"):
            self.assertIn(name, vars(Clash))


class Holding(Case):

    def assert_holds(self, expected, first, second, image):
        self.assertIs(holds_by_words(first, second, image), expected)
        self.assertIs(Clash(first, second, image).holds(), expected)

    def test_clashes_that_hold(self):
        for first, second, image in HOLDING:
            self.assert_holds(True, first, second, image)
            self.assert_holds(True, second, first, image)
            self.assert_holds(True, first[::-1], second, image)

    def test_a_name_that_one_update_does_not_have(self):
        for first, second, image in HOLDING:
            for at in range(len(image)):
                for name in (99, -1, 4):
                    self.assert_holds(False, first, second, image[:at] + [name] + image[at + 1:])
                for side in (0, 1):
                    alone = [list(row) for row in (first, second)[side]]
                    alone[0][at] = 50
                    alone[1][at] = 60
                    changed = (tuple(alone), second) if side == 0 else (first, tuple(alone))
                    self.assert_holds(False, *changed, image)

    def test_a_row_of_both(self):
        self.assert_holds(False, ([0, 1], [1, 2]), ([0, 1], [1, 1]), [0, 1])
        self.assert_holds(False, ([0, 1], [1, 2]), ([0, 2], [1, 2]), [0, 2])
        self.assert_holds(False, ([0, 1], [1, 2]), ([0, 2], [0, 1]), [0, 2])
        self.assert_holds(False, ([0, 1], [1, 2]), ([1, 2], [0, 2]), [0, 2])
        self.assert_holds(False, ([], []), ([], []), [])

    def test_different_lengths(self):
        for first, second, image in HOLDING:
            for shorter in range(5):
                rows = [list(row) for row in (*first, *second, image)]
                rows[shorter].pop()
                self.assert_holds(False, (rows[0], rows[1]), (rows[2], rows[3]), rows[4])
                rows = [list(row) for row in (*first, *second, image)]
                rows[shorter].append(0)
                self.assert_holds(False, (rows[0], rows[1]), (rows[2], rows[3]), rows[4])
        self.assert_holds(False, ([0], [0]), ([1], [1]), [])
        self.assert_holds(False, ([], []), ([], []), [0])

    def test_all_small_ones(self):
        rows = [list(row) for row in product(range(2), repeat=2)]
        for before, after, one, other, image in product(rows, repeat=5):
            expected = holds_by_words((before, after), (one, other), image)
            self.assertIs(Clash((before, after), (one, other), image).holds(), expected)

    def test_a_clash_keeps_lists_of_its_own(self):
        first, second, image = ([0, 0], [1, 1]), ([0, 1], [0, 1]), [0, 1]
        clash = Clash(first, second, image)
        self.assertEqual((clash.first, clash.second, clash.image), (first, second, image))
        for update in (clash.first, clash.second):
            self.assertIs(type(update), tuple)
            self.assertEqual([type(row) for row in update], [list, list])
        self.assertIs(type(clash.image), list)
        for row in (*first, *second, image):
            row.append(5)
        first[0][0] = 9
        image[0] = 9
        self.assertEqual(clash.first, ([0, 0], [1, 1]))
        self.assertEqual(clash.second, ([0, 1], [0, 1]))
        self.assertEqual(clash.image, [0, 1])
        self.assertIs(clash.holds(), True)
        row = [0]
        same = Clash((row, row), (row, row), row)
        self.assertIsNot(same.first[0], same.first[1])


class Safety(Case):

    def test_safe_kinds(self):
        self.assertIs(is_safe(), True)
        self.assertIs(is_safe(*SAFE), True)
        for kind in SAFE:
            self.assertIs(is_safe(kind), True)
            self.assertIs(is_safe(kind, kind), True)
            self.assertIsNone(kind_clash(kind))

    def test_all_small_kinds(self):
        for kind in all_kinds(9):
            self.assertIs(is_safe(kind), kind in SAFE)
            self.assertIs(is_safe((), kind, SAFE[3]), kind in SAFE)

    def test_kinds_that_are_not_safe(self):
        for kind in LARGE:
            self.assertIs(is_safe(kind), False)
            self.assertIs(is_safe(*SAFE, kind, *SAFE), False)

    def test_invalid_kinds(self):
        for kind in BAD_KINDS:
            for kinds in ((kind,), (*SAFE, kind), (kind, *SAFE), (LARGE[0], kind),
                          (LARGE[0], LARGE[1], kind, LARGE[2]), (kind, LARGE[0])):
                self.assert_error(InvalidKind(), is_safe, *kinds)
                self.assert_error(InvalidKind(), first_clash, *kinds)
            self.assert_error(InvalidKind(), kind_clash, kind)


class Kinds(Case):

    def assert_clash(self, clash, kind):
        """All that [30] says of the clash of a kind."""
        self.assertIs(type(clash), Clash)
        self.assertIs(clash.holds(), True)
        self.assertIs(holds_by_words(clash.first, clash.second, clash.image), True)
        self.assertEqual(len(clash.image), sum(length for _, length, _ in kind))
        for row in (*clash.first, *clash.second):
            check_state(row)
            for record, name in enumerate(row):
                self.assertTrue(name == record or (name + record) % 2 == 1)
        self.assertEqual(kind_of(*clash.first), kind)
        self.assertIn(kind_of(*clash.second), (kind, ()))

    def test_all_small_kinds(self):
        for kind in all_kinds(9):
            if kind not in SAFE:
                self.assert_clash(kind_clash(kind), kind)

    def test_large_kinds(self):
        for kind in LARGE:
            self.assert_clash(kind_clash(kind), kind)
        for length in range(10, 65):
            for gain in ((0,) if length % 2 else (-1, 1)):
                kind = (("chain", length, gain),)
                self.assert_clash(kind_clash(kind), kind)
            if length % 2 == 0:
                kind = (("ring", length, 0),)
                self.assert_clash(kind_clash(kind), kind)

    def test_the_first_clash(self):
        self.assertIsNone(first_clash())
        self.assertIsNone(first_clash(*SAFE))
        for kind in LARGE + tuple(kind for kind in all_kinds(6) if kind not in SAFE):
            for kinds, place in (((kind,), 0), ((*SAFE, kind), 5), ((kind, *SAFE, LARGE[1]), 0),
                                 ((SAFE[1], kind, SAFE[2], LARGE[0], kind), 1)):
                found = first_clash(*kinds)
                self.assertIs(type(found), tuple)
                self.assertEqual(found[0], place)
                self.assert_clash(found[1], kinds[place])

    def test_each_call_gives_lists_of_its_own(self):
        for kind in ((("chain", 4, 1),), (("chain", 2, 1),) * 2, (("ring", 6, 0),)):
            clash = kind_clash(kind)
            for row in (*clash.first, *clash.second, clash.image):
                row.append(9)
                row[0] = 9
            self.assert_clash(kind_clash(kind), kind)
            self.assert_clash(first_clash(kind)[1], kind)


class Writers(Case):
    """The words of [30] about any number of writers with updates of safe kinds."""

    def teams(self, state):
        """All sets of changes from the state, no two with a common record."""
        found = [[]]
        for change in changes_from(state):
            taken = set(change[1])
            found += [team + [change] for team in found
                      if all(taken.isdisjoint(records) for _, records in team)]
        return found

    def assert_whole(self, state, team, image, repaired):
        for change in team:
            self.assertIsNotNone(side_by_definition(repaired, change), (state, team, image))
        inside = [record for _, records in team for record in records]
        for record, name in enumerate(state):
            if record not in inside:
                self.assertEqual(repaired[record], name)

    def test_all_small_tables(self):
        for size in range(5):
            come_up = []
            for state in all_states(size):
                for team in self.teams(state):
                    update = Update.joint(Update.rest(state),
                                          *[update_by(state, change) for change in team])
                    for done in subsets(update.records):
                        image = update.torn(*done)
                        come_up.append(image)
                        self.assertTrue(is_repairable(image))
                        for number in range(32):
                            self.assert_whole(state, team, image,
                                              repair_by_table(image, words_of(number)))
            for image in all_repairable(size):
                self.assertIn(image, come_up)

    def test_tables_of_five_records(self):
        come_up = set()
        for state in all_states(5):
            for team in self.teams(state):
                records = sorted(record for _, records in team for record in records)
                update = Update.joint(Update.rest(state),
                                      *[update_by(state, change) for change in team])
                for done in subsets(records):
                    image = update.torn(*done)
                    come_up.add(tuple(image))
                    for rules in (ALL_RULES[0], ALL_RULES[31]):
                        self.assert_whole(state, team, image, repair(image, rules))
        self.assertEqual(sorted(come_up), [tuple(image) for image in all_repairable(5)])

    def test_drawn_teams_in_large_tables(self):
        draw = Random(30)
        for size in (16, 33, 64):
            for _ in range(20):
                state = drawn_state(draw, size)
                team, taken = [], set()
                changes = list(changes_from(state))
                draw.shuffle(changes)
                for change in changes:
                    if taken.isdisjoint(change[1]):
                        team.append(change)
                        taken.update(change[1])
                team = team[:draw.randint(1, len(team))]
                update = Update.joint(*[update_by(state, change) for change in team])
                image = update.torn(*[x for x in update.records if draw.randint(0, 1)])
                self.assertTrue(is_repairable(image))
                for rules in ALL_RULES:
                    self.assert_whole(state, team, image, repair(image, rules))

    def test_the_changes_are_the_updates_of_the_safe_kinds(self):
        for change in all_changes(5):
            for state in all_states(5):
                if side_by_definition(state, change) is not None:
                    self.assertIn(update_by(state, change).kind, SAFE[1:])

    def test_no_repair_can_do_it_for_other_kinds(self):
        # Both writers of a clash may have left its image, and no state is right for both.
        for kind in all_kinds(8):
            clash = kind_clash(kind)
            if clash is None:
                continue
            for update in (clash.first, clash.second):
                records = [x for x, name in enumerate(update[0]) if name != update[1][x]]
                done = [x for x in records if clash.image[x] == update[1][x]]
                self.assertEqual(Update(*update).torn(*done), clash.image)
            for row, other in permutations((*clash.first, *clash.second), 2):
                if row == other:
                    self.assertTrue(row in clash.first and other in clash.first
                                    or row in clash.second and other in clash.second)


if __name__ == "__main__":
    unittest.main()
