"""Promises [2] and [14] to [16]: peermend.kinds."""

import unittest
from itertools import combinations_with_replacement, product

from helpers import FREE_64, PAIRS_64, Case, all_images, all_states, state_of
from peermend import kinds
from peermend.errors import InvalidImage, InvalidKind, NotState, UnequalSizes
from peermend.images import check_state
from peermend.kinds import check_kind, kind_of, parts, reverse_kind, sample_rows

# All entries with at most 9 records, as [15] words them.
ENTRIES = (
    ("chain", 2, -1), ("chain", 2, 1), ("chain", 3, 0), ("chain", 4, -1), ("chain", 4, 1),
    ("chain", 5, 0), ("chain", 6, -1), ("chain", 6, 1), ("chain", 7, 0), ("chain", 8, -1),
    ("chain", 8, 1), ("chain", 9, 0), ("ring", 4, 0), ("ring", 6, 0), ("ring", 8, 0),
)
VALID = [()] + [(entry,) for entry in ENTRIES] + [
    (("ring", 64, 0),), (("chain", 64, 1),), (("chain", 64, -1),), (("chain", 63, 0),),
    (("chain", 2, -1), ("chain", 2, -1), ("chain", 2, 1)),
    (("chain", 2, 1), ("chain", 3, 0), ("ring", 4, 0)),
    (("chain", 2, -1), ("chain", 10, -1), ("chain", 10, 1), ("ring", 4, 0), ("ring", 4, 0)),
    (("chain", 3, 0),) * 21, (("ring", 4, 0),) * 16, (("chain", 2, 1),) * 32,
]
INVALID = (
    (("row", 4, 0),), (("", 4, 0),), (("Chain", 2, 1),), (("rings", 4, 0),), (("pair", 2, 1),),
    (("chain", 1, 0),), (("chain", 0, 0),), (("chain", 0, 1),), (("chain", 1, 1),),
    (("chain", -1, 0),), (("chain", -2, 1),), (("chain", -3, 0),), (("chain", -10 ** 20, 1),),
    (("ring", 2, 0),), (("ring", 3, 0),), (("ring", 5, 0),), (("ring", 63, 0),),
    (("ring", 0, 0),), (("ring", 1, 0),), (("ring", -4, 0),),
    (("chain", 2, 0),), (("chain", 4, 0),), (("chain", 2, 2),), (("chain", 2, -2),),
    (("chain", 4, 3),), (("chain", 3, 1),), (("chain", 3, -1),), (("chain", 5, 10 ** 20),),
    (("ring", 4, 1),), (("ring", 4, -1),), (("ring", 6, 2),),
    (("chain", 2, 1), ("chain", 2, -1)), (("chain", 3, 0), ("chain", 2, 1)),
    (("ring", 4, 0), ("chain", 2, 1)), (("ring", 6, 0), ("ring", 4, 0)),
    (("chain", 2, 1), ("ring", 4, 0), ("chain", 2, 1)),
    (("chain", 10, 1), ("chain", 9, 0)),
    (("chain", 2),), (("chain",),), ((),), (("chain", 2, 1, 0),), (("chain", 3, 0, 0),),
    (("ring", 4),), (("ring", 4, 0, 0),), ("chain", 2, 1),
    (("chain", 2, 1), ("chain", 1, 0)), (("chain", 1, 0), ("chain", 2, 1)),
    (("chain", 2, 1), ("chain", 3)), (("chain", 2, 1), ("ring", 5, 0)),
    (("chain", 2, 1), ("chain", 2, 1), ("chain", 2, 0)),
)


def links_of(before, after):
    """The before-links and the after-links as sets of tuples, both ways round."""
    olds = {(x, before[x]) for x in range(len(before)) if before[x] != x}
    news = {(x, after[x]) for x in range(len(after)) if after[x] != x}
    return olds - news, news - olds


def rows_from(start, links):
    """All ways to go from a record along links of both sorts in turn, as far as they go."""
    found = []
    open_rows = [([start], sort) for sort in (0, 1)]
    while open_rows:
        row, sort = open_rows.pop()
        found.append((row, sort))
        for first, second in links[sort]:
            if first == row[-1] and second not in row:
                open_rows.append((row + [second], 1 - sort))
    return found


def parts_by_links(before, after):
    """The parts, by trying all rows against the words of [14]."""
    links = links_of(before, after)
    left = sorted({record for sort in links for link in sort for record in link})
    found = []
    while left:
        linked = {second for row, _ in rows_from(left[0], links) for second in row}
        fitting = []
        for start in linked:
            for row, _ in rows_from(start, links):
                if set(row) == linked:
                    closed = [(row[-1], row[0]) in sort for sort in links]
                    if len(row) > 2 and any(closed):
                        if row[0] == min(row) and row[1] == before[row[0]]:
                            fitting.append(("ring", row))
                    elif row[0] < row[-1]:
                        fitting.append(("chain", row))
        assert len({(shape, tuple(row)) for shape, row in fitting}) == 1, (before, after, fitting)
        found.append(fitting[0])
        left = [record for record in left if record not in linked]
    return found


def kind_by_links(before, after):
    entries = []
    for shape, row in parts_by_links(before, after):
        gain = (sum(after[x] != x for x in row) - sum(before[x] != x for x in row)) // 2
        entries.append((shape, len(row), gain))
    return tuple(sorted(entries))


def paired(size, row, first):
    """The state in which the row's records are pairs, from the place `first` on."""
    return state_of(size, *[(row[at], row[at + 1]) for at in range(first, len(row) - 1, 2)])


def both(one, other):
    """Two states on different records laid over each other."""
    return [theirs if mine == x else mine for x, (mine, theirs) in enumerate(zip(one, other))]


class Interface(Case):

    def test_each_function_is_defined_in_its_file(self):
        self.assert_defined(kinds, "check_kind", "parts", "kind_of", "reverse_kind",
                            "sample_rows")

    def test_kinds_of_values(self):
        found = parts([1, 0, 2], [0, 2, 1])
        self.assertIs(type(found), list)
        self.assertEqual([(type(part), type(part[1])) for part in found], [(tuple, list)])
        kind = kind_of([1, 0, 2], [0, 2, 1])
        self.assertEqual((type(kind), type(kind[0])), (tuple, tuple))
        self.assertEqual(type(reverse_kind(kind)), tuple)
        rows = sample_rows(kind)
        self.assertEqual([type(rows), type(rows[0]), type(rows[1])], [tuple, list, list])


class CheckKind(Case):

    def test_valid_kinds(self):
        for kind in VALID:
            with self.subTest(kind=kind):
                self.assertIsNone(check_kind(kind))

    def test_invalid_kinds(self):
        for kind in INVALID:
            with self.subTest(kind=kind):
                for function in (check_kind, reverse_kind, sample_rows):
                    self.assert_error(InvalidKind(), function, kind)

    def test_all_small_entries(self):
        for shape in ("chain", "ring", "line"):
            for length, gain in product(range(-2, 10), range(-3, 4)):
                entry = (shape, length, gain)
                if entry in ENTRIES:
                    self.assertIsNone(check_kind((entry,)))
                else:
                    self.assert_error(InvalidKind(), check_kind, (entry,))

    def test_entries_must_be_ascending(self):
        for first, second in product(ENTRIES, repeat=2):
            if first <= second:
                self.assertIsNone(check_kind((first, second)))
            else:
                self.assert_error(InvalidKind(), check_kind, (first, second))


class Parts(Case):

    def test_all_small_updates(self):
        for size in range(6):
            for before, after in product(all_states(size), repeat=2):
                self.assert_list(parts(before, after), parts_by_links(before, after))
                self.assertEqual(kind_of(before, after), kind_by_links(before, after))

    def test_no_part(self):
        for state in ([], [0], [1, 0], [2, 1, 0], FREE_64, PAIRS_64):
            self.assert_list(parts(state, list(state)), [])
            self.assertEqual(kind_of(state, list(state)), ())

    def test_chains_that_begin_with_each_sort_of_link(self):
        for length in range(2, 10):
            for first in (0, 1):
                for row in (list(range(length)), list(range(1, length + 1)),
                            [3 * x % 11 for x in range(1, length + 1)]):
                    before, after = paired(12, row, first), paired(12, row, 1 - first)
                    expected = row if row[0] < row[-1] else row[::-1]
                    self.assertEqual(parts(before, after), [("chain", expected)])
                    before, after = paired(12, row[::-1], first), paired(12, row[::-1], 1 - first)
                    self.assertEqual(parts(before, after), [("chain", expected)])
                    gain = 0 if length % 2 else (-1 if before[row[0]] != row[0] else 1)
                    self.assertEqual(kind_of(before, after), (("chain", length, gain),))

    def test_a_chain_begins_with_its_lesser_end_which_need_not_be_its_least_record(self):
        self.assertEqual(parts([1, 0, 2], [2, 1, 0]), [("chain", [1, 0, 2])])
        self.assertEqual(parts([0, 1, 3, 2], [2, 3, 0, 1]), [("chain", [0, 2, 3, 1])])
        self.assertEqual(parts([4, 2, 1, 3, 0], [3, 4, 2, 0, 1]), [("chain", [2, 1, 4, 0, 3])])

    def test_rings(self):
        for length in (4, 6, 8, 64):
            plain = list(range(length))
            # 5 and 37 have no divisor in common with the lengths but 1.
            for step, turn in product((1, 5, 37), (0, 1, length - 1)):
                row = [(x * step + turn) % length for x in plain]
                before = paired(length, row, 0)
                after = paired(length, row[1:] + row[:1], 0)
                for old, new in ((before, after), (after, before)):
                    [(shape, found)] = parts(old, new)
                    self.assertEqual(shape, "ring")
                    self.assertEqual(sorted(found), plain)
                    self.assertEqual((found[0], found[1]), (0, old[0]))
                    for at in range(0, length, 2):
                        self.assertEqual(old[found[at]], found[at + 1])
                        self.assertEqual(new[found[at + 1]], found[(at + 2) % length])
                    self.assertEqual(kind_of(old, new), (("ring", length, 0),))

    def test_rings_in_words(self):
        self.assertEqual(parts([1, 0, 3, 2], [3, 2, 1, 0]), [("ring", [0, 1, 2, 3])])
        self.assertEqual(parts([3, 2, 1, 0], [1, 0, 3, 2]), [("ring", [0, 3, 2, 1])])
        self.assertEqual(parts([2, 3, 0, 1], [1, 0, 3, 2]), [("ring", [0, 2, 3, 1])])

    def test_a_pair_of_both_states_is_no_part(self):
        self.assertEqual(parts([1, 0, 3, 2, 4], [1, 0, 2, 4, 3]), [("chain", [2, 3, 4])])

    def test_several_parts_among_each_other(self):
        before = state_of(12, (0, 7), (3, 5), (2, 10), (4, 8))
        after = state_of(12, (7, 9), (5, 2), (10, 3), (1, 11), (4, 8))
        self.assertEqual(parts(before, after), [
            ("chain", [0, 7, 9]), ("chain", [1, 11]), ("ring", [2, 10, 3, 5])])
        self.assertEqual(kind_of(before, after),
                         (("chain", 2, 1), ("chain", 3, 0), ("ring", 4, 0)))
        self.assertEqual(kind_of(after, before),
                         (("chain", 2, -1), ("chain", 3, 0), ("ring", 4, 0)))

    def test_the_parts_are_ordered_by_their_least_records_not_by_their_first(self):
        one = [5, 0, 6]
        other = [1, 2, 3]
        before = both(paired(7, one, 0), paired(7, other, 0))
        after = both(paired(7, one, 1), paired(7, other, 1))
        self.assertEqual(parts(before, after), [("chain", [5, 0, 6]), ("chain", [1, 2, 3])])

    def test_wrong_states(self):
        good = [1, 0, 2]
        for function in (parts, kind_of):
            for size in range(4):
                for image in all_images(size):
                    try:
                        check_state(image)
                    except NotState as error:
                        self.assert_error(NotState(error.record), function, image, good)
                        self.assert_error(NotState(error.record), function, good, image)
            self.assert_error(InvalidImage(1), function, [0, 2], [0, 7])
            self.assert_error(NotState(0), function, [1, 1], [0, 7])
            self.assert_error(InvalidImage(2), function, good, [1, 1, 3])
            self.assert_error(NotState(0), function, good, [1, 1])
            self.assert_error(UnequalSizes(), function, good, [1, 0])
            self.assert_error(UnequalSizes(), function, [], [0])


class Kinds(Case):

    def test_a_kind_is_ascending(self):
        for size in range(6):
            for before, after in product(all_states(size), repeat=2):
                kind = kind_of(before, after)
                self.assertEqual(list(kind), sorted(kind))
                self.assertIsNone(check_kind(kind))
                self.assertEqual(kind_of(after, before), reverse_kind(kind))

    def test_reverse_kind(self):
        self.assertEqual(reverse_kind(()), ())
        self.assertEqual(reverse_kind((("chain", 2, 1), ("chain", 4, -1), ("ring", 4, 0))),
                         (("chain", 2, -1), ("chain", 4, 1), ("ring", 4, 0)))
        self.assertEqual(reverse_kind((("chain", 2, -1), ("chain", 2, -1), ("chain", 2, 1))),
                         (("chain", 2, -1), ("chain", 2, 1), ("chain", 2, 1)))
        for kind in VALID:
            self.assertIsNone(check_kind(reverse_kind(kind)))
            self.assertEqual(reverse_kind(reverse_kind(kind)), kind)


class Samples(Case):

    def test_samples_in_words(self):
        for kind, before, after in (
            ((), [], []),
            ((("chain", 2, 1),), [0, 1], [1, 0]),
            ((("chain", 2, -1),), [1, 0], [0, 1]),
            ((("chain", 3, 0),), [1, 0, 2], [0, 2, 1]),
            ((("chain", 4, -1),), [1, 0, 3, 2], [0, 2, 1, 3]),
            ((("chain", 4, 1),), [0, 2, 1, 3], [1, 0, 3, 2]),
            ((("chain", 5, 0),), [1, 0, 3, 2, 4], [0, 2, 1, 4, 3]),
            ((("ring", 4, 0),), [1, 0, 3, 2], [3, 2, 1, 0]),
            ((("ring", 6, 0),), [1, 0, 3, 2, 5, 4], [5, 2, 1, 4, 3, 0]),
            ((("chain", 2, -1), ("chain", 2, 1)), [1, 0, 2, 3], [0, 1, 3, 2]),
            ((("chain", 2, 1), ("chain", 3, 0), ("ring", 4, 0)),
             [0, 1, 3, 2, 4, 6, 5, 8, 7], [1, 0, 2, 4, 3, 8, 7, 6, 5]),
            ((("ring", 4, 0), ("ring", 4, 0)), [1, 0, 3, 2, 5, 4, 7, 6], [3, 2, 1, 0, 7, 6, 5, 4]),
        ):
            self.assertEqual(sample_rows(kind), (before, after))

    def test_one_part(self):
        for shape, length, gain in ENTRIES + (("ring", 64, 0), ("chain", 64, 1), ("chain", 63, 0),
                                              ("chain", 64, -1)):
            row = list(range(length))
            first, second = paired(length, row, 0), paired(length, row, 1)
            if shape == "ring":
                second = state_of(length, (length - 1, 0),
                                  *[(x, x + 1) for x in range(1, length - 1, 2)])
            expected = (second, first) if gain == 1 else (first, second)
            self.assertEqual(sample_rows(((shape, length, gain),)), expected)

    def test_the_parts_take_consecutive_records_in_the_order_of_the_kind(self):
        kinds_of_three = combinations_with_replacement(ENTRIES, 3)
        for kind in list(kinds_of_three) + VALID:
            before, after = sample_rows(kind)
            start = 0
            for entry in kind:
                rows = sample_rows((entry,))
                for whole, part in zip((before, after), rows):
                    self.assertEqual(whole[start:start + entry[1]], [x + start for x in part])
                start += entry[1]
            self.assertEqual((len(before), len(after)), (start, start))

    def test_a_sample_has_its_kind(self):
        for kind in VALID:
            before, after = sample_rows(kind)
            self.assertEqual(kind_of(before, after), kind)
            self.assertEqual(kind_of(after, before), reverse_kind(kind))
            self.assertEqual(len(before), sum(length for _, length, _ in kind))


class Copies(Case):

    def test_no_call_changes_its_arguments(self):
        before, after = [1, 0, 2, 4, 3], [2, 1, 0, 3, 4]
        parts(before, after)
        kind_of(before, after)
        self.assertEqual((before, after), ([1, 0, 2, 4, 3], [2, 1, 0, 3, 4]))
        with self.assertRaises(NotState):
            parts(before, [0, 2, 1, 1, 4])
        self.assertEqual(before, [1, 0, 2, 4, 3])

    def test_changing_what_was_returned_has_no_effect(self):
        before, after = [1, 0, 2, 4, 3], [2, 1, 0, 3, 4]
        found = parts(before, after)
        found[0][1].append(9)
        found.pop()
        self.assertEqual(parts(before, after), [("chain", [1, 0, 2]), ("chain", [3, 4])])
        kind = (("chain", 3, 0),)
        for row in sample_rows(kind):
            row[0] = 2
            row.append(3)
        self.assertEqual(sample_rows(kind), ([1, 0, 2], [0, 2, 1]))


if __name__ == "__main__":
    unittest.main()
