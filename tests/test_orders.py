"""Promises [2] and [41] to [48]: peermend.orders."""

import unittest
from functools import lru_cache
from itertools import permutations, product
from random import Random

from helpers import (FREE_64, PAIRS_64, Case, all_kinds, all_states, drawn_state, repair_by_table,
                     words_of)
from peermend import orders as module
from peermend.changes import changes_from, update_by
from peermend.errors import InvalidKind, InvalidOrder
from peermend.kinds import reverse_kind
from peermend.orders import (bearable, best_order, check_order, least_flushes, order_images,
                             unfinal, verdicts, wrong_image)
from peermend.pieces import is_repairable
from peermend.repair import unsteady
from peermend.rules import Rules
from peermend.updates import Update, sample

ALL_RULES = [Rules.numbered(number) for number in range(32)]
SAFE = ((("chain", 2, -1),), (("chain", 2, 1),), (("chain", 3, 0),), (("ring", 4, 0),))
LONG = ((("chain", 4, -1),), (("chain", 4, 1),), (("chain", 5, 0),), (("chain", 6, -1),),
        (("chain", 6, 1),), (("chain", 7, 0),))
LARGE = ((("chain", 64, 1),), (("chain", 63, 0),), (("ring", 64, 0),), (("chain", 2, -1),) * 32,
         (("ring", 4, 0),) * 16, (("chain", 3, 0), ("chain", 4, 1), ("ring", 50, 0)),
         (("chain", 9, 0),), (("chain", 10, -1),), (("ring", 10, 0),))
FOUR = Update([1, 0, 3, 2], [0, 2, 1, 3])
MOVE = Update([1, 0, 2, 4, 3], [2, 1, 0, 4, 3])
REST = Update.rest([1, 0, 2])
BAD_KINDS = ((("chain", 1, 0),), (("ring", 5, 0),), (("ring", 4, 0), ("chain", 2, 1)),
             (("chain", 4, 0),))


def written(update, done):
    return [update.after[x] if x in done else name for x, name in enumerate(update.before)]


def word_of(update, image, words):
    """The word of [47] for an image, from the table of [20] alone."""
    state = repair_by_table(image, words) if is_repairable(image) else None
    if state == update.before:
        return "before"
    return "after" if state == update.after else "other"


def images_by_words(update, order):
    """The images of [42] in their order."""
    found, earlier = [], []
    for batch in order:
        members = sorted(batch)
        for k in range(2 ** len(members) - 1):
            found.append(written(update, earlier + [x for i, x in enumerate(members) if k >> i & 1]))
        earlier += batch
    return found + [list(update.after)]


@lru_cache(maxsize=None)
def borne_sets(kind):
    """For each set of written records of a sample: the numbers of the rules that settle it."""
    update = sample(kind)
    found = {}
    for k in range(2 ** len(update)):
        done = frozenset(x for i, x in enumerate(update.records) if k >> i & 1)
        image = written(update, done)
        numbers = set()
        if is_repairable(image):
            numbers = {number for number in range(32)
                       if word_of(update, image, words_of(number)) != "other"}
        found[done] = numbers
    return found


def batches_by_search(kind, number):
    """The least number of batches of an order that the rules bear, or None: from what is
    written, let batches grow record by record while all of their parts are settled."""
    good = {done for done, numbers in borne_sets(kind).items() if number in numbers}
    goal = frozenset(sample(kind).records)
    reached, layer, many = {frozenset()}, {frozenset()}, 0
    while layer and goal not in reached:
        found = set()
        for start in layer:
            grown = {start}
            while grown:
                wider = {done | {x} for done in grown for x in goal - done} & good
                # A batch is borne if it is without any one of its records, and as a whole.
                grown = {done for done in wider
                         if all(done - {x} in grown for x in done - start)}
                found |= grown
        layer = found - reached
        reached |= found
        many += 1
    return many if goal in reached else None


def all_orders(records):
    """All orders of these records, each once."""
    if not records:
        yield []
        return
    for k in range(1, 2 ** len(records)):
        batch = [x for i, x in enumerate(records) if k >> i & 1]
        for rest in all_orders([x for x in records if x not in batch]):
            yield [batch] + rest


def placed(kind, size, draw):
    """An update of the kind in a larger table, with records in any order."""
    small = sample(kind)
    records = draw.sample(range(size), len(small))
    others = [x for x in range(size) if x not in records]
    before = list(range(size))
    if others:
        state = drawn_state(draw, len(others))
        for x, name in zip(others, state):
            before[x] = others[name]
    after = list(before)
    for x in small.records:
        before[records[x]] = records[small.before[x]]
        after[records[x]] = records[small.after[x]]
    return Update(before, after)


class Interface(Case):

    def test_each_function_is_defined_in_its_file(self):
        self.assert_defined(module, "check_order", "order_images", "wrong_image", "best_order",
                            "least_flushes", "bearable", "verdicts", "unfinal")

    def test_the_example(self):
        self.assertIsNone(wrong_image(Update([1, 0, 3, 2], [0, 2, 1, 3]), [[0, 3], [1, 2]]))


class Orders(Case):

    def test_orders(self):
        for update, order in ((FOUR, [[0, 1, 2, 3]]), (FOUR, [[3], [1], [0], [2]]),
                              (FOUR, [[2, 0], [3, 1]]), (MOVE, [[1, 2, 0]]), (MOVE, [[2], [1, 0]]),
                              (REST, []), (Update([], []), [])):
            self.assertIsNone(check_order(update, order))
        for order in all_orders([0, 1, 2, 3]):
            self.assertIsNone(check_order(FOUR, order))

    def test_lists_that_are_no_order(self):
        for update, order in (
                # An empty batch.
                (FOUR, [[]]), (FOUR, [[0, 1, 2, 3], []]), (FOUR, [[], [0, 1, 2, 3]]),
                (REST, [[]]), (REST, [[], []]), (FOUR, [[0, 1], [], [2, 3]]),
                # A record left out.
                (FOUR, []), (FOUR, [[0, 1, 2]]), (MOVE, [[0], [2]]), (MOVE, []),
                # Twice in one batch, or in two.
                (FOUR, [[0, 1, 2, 3, 3]]), (FOUR, [[0, 0, 1, 2]]), (FOUR, [[0, 1], [1, 2, 3]]),
                (FOUR, [[0, 1, 2, 3], [0]]), (MOVE, [[0, 1], [0, 2]]),
                # A stranger.
                (FOUR, [[0, 1, 2, 3, 4]]), (FOUR, [[0, 1, 2, -1]]), (FOUR, [[0, 1, 2, 4]]),
                (MOVE, [[0, 1, 2, 3]]), (MOVE, [[0, 1, 3]]), (REST, [[0]]), (REST, [[7]]),
                (MOVE, [[0, 1, 2], [99]])):
            with self.subTest(update=update, order=order):
                self.assert_error(InvalidOrder(), check_order, update, order)
                self.assert_error(InvalidOrder(), next, order_images(update, order))
                self.assert_error(InvalidOrder(), wrong_image, update, order)
                self.assert_error(InvalidOrder(), wrong_image, update, order, Rules())

    def test_the_error_comes_when_the_first_image_is_asked_for(self):
        found = order_images(FOUR, [[0]])
        self.assert_error(InvalidOrder(), next, found)

    def test_the_images(self):
        self.assertEqual(list(order_images(MOVE, [[2], [1, 0]])),
                         [[1, 0, 2, 4, 3], [1, 0, 0, 4, 3], [2, 0, 0, 4, 3], [1, 1, 0, 4, 3],
                          [2, 1, 0, 4, 3]])
        self.assertEqual(list(order_images(REST, [])), [[1, 0, 2]])
        self.assertEqual(list(order_images(Update([], []), [])), [[]])
        for order in all_orders([0, 1, 2, 3]):
            expected = images_by_words(FOUR, order)
            self.assertEqual(list(order_images(FOUR, order)), expected)
            self.assertEqual(len({tuple(image) for image in expected}), len(expected))
            turned = [batch[::-1] for batch in order]
            self.assertEqual(list(order_images(FOUR, turned)), expected)

    def test_one_batch_has_all_torn_images(self):
        for kind in all_kinds(8):
            update = sample(kind)
            if len(update):
                self.assertEqual(list(order_images(update, [update.records])),
                                 list(update.torn_images()))


class Bearing(Case):

    def test_wrong_image_by_all_rules(self):
        for kind in all_kinds(4):
            update = sample(kind)
            for order in all_orders(update.records):
                for number in range(32):
                    wrong = [image for image in images_by_words(update, order)
                             if word_of(update, image, words_of(number)) == "other"]
                    found = wrong_image(update, order, ALL_RULES[number])
                    self.assertEqual(found, wrong[0] if wrong else None)
                    if number == 0:
                        self.assertEqual(wrong_image(update, order), found)
                        self.assertEqual(wrong_image(update, order, None), found)

    def test_wrong_image_in_larger_tables(self):
        draw = Random(43)
        for kind in SAFE + LONG + ((("chain", 8, 1),), (("ring", 6, 0),)):
            for size in (8, 11, 64):
                update = placed(kind, size, draw)
                records = update.records
                draw.shuffle(records)
                for order in ([records], [records[:2], records[2:]], [[x] for x in records]):
                    if [] in order:
                        continue
                    wrong = [image for image in images_by_words(update, order)
                             if word_of(update, image, words_of(0)) == "other"]
                    self.assertEqual(wrong_image(update, order), wrong[0] if wrong else None)

    def test_safe_kinds_bear_every_order(self):
        for kind in ((),) + SAFE:
            update = sample(kind)
            for order in all_orders(update.records):
                for rules in ALL_RULES:
                    self.assertIsNone(wrong_image(update, order, rules))

    def test_least_flushes_against_a_search(self):
        for kind in all_kinds(8):
            for number, rules in enumerate(ALL_RULES):
                batches = batches_by_search(kind, number)
                expected = None if batches is None else max(batches - 1, 0)
                self.assertEqual(least_flushes(kind, rules), expected, (kind, number))
                if number == 0:
                    self.assertEqual(least_flushes(kind), expected)
                    self.assertEqual(least_flushes(kind, None), expected)

    def test_the_search_against_all_orders(self):
        for kind in all_kinds(5):
            update = sample(kind)
            for number in (0, 1, 2, 4, 8, 16, 31):
                borne = [len(order) for order in all_orders(update.records)
                         if all(number in borne_sets(kind)[frozenset(done)]
                                for done in self.sets_of(order))]
                self.assertEqual(batches_by_search(kind, number), min(borne, default=None))

    def sets_of(self, order):
        earlier = []
        for batch in order:
            for k in range(2 ** len(batch)):
                yield earlier + [x for i, x in enumerate(batch) if k >> i & 1]
            earlier = earlier + batch
        yield earlier

    def test_the_numbers(self):
        self.assertEqual(least_flushes(()), 0)
        for rules in [None] + ALL_RULES:
            self.assertEqual(least_flushes((), rules), 0)
            self.assertEqual([least_flushes(kind, rules) for kind in SAFE], [0] * 4)
            for kind in LARGE:
                self.assertIsNone(least_flushes(kind, rules))
            for kind in all_kinds(8):
                flushes = least_flushes(kind, rules)
                self.assertEqual(flushes, least_flushes(reverse_kind(kind), rules))
                if kind and kind not in SAFE + LONG:
                    self.assertIsNone(flushes)
                elif kind in LONG and flushes is not None:
                    # No rules need fewer flushes than the standard ones.
                    self.assertGreaterEqual(flushes, least_flushes(kind))
        self.assertEqual([least_flushes(kind) for kind in LONG], [1, 1, 2, 2, 2, 2])

    def test_bearable(self):
        self.assertEqual(bearable(), [
            ((("chain", 2, -1),), 0), ((("chain", 2, 1),), 0), ((("chain", 3, 0),), 0),
            ((("chain", 4, -1),), 1), ((("chain", 4, 1),), 1), ((("chain", 5, 0),), 2),
            ((("chain", 6, -1),), 2), ((("chain", 6, 1),), 2), ((("chain", 7, 0),), 2),
            ((("ring", 4, 0),), 0)])
        self.assertEqual(bearable(None), bearable())
        self.assertEqual(bearable(Rules()), bearable())
        for number, rules in enumerate(ALL_RULES):
            expected = []
            for kind in all_kinds(8):
                batches = batches_by_search(kind, number)
                if kind and batches is not None:
                    expected.append((kind, batches - 1))
            self.assert_list(bearable(rules), sorted(expected))

    def test_best_orders(self):
        draw = Random(44)
        for kind in ((),) + SAFE + LONG + ((("chain", 2, 1),) * 2, (("chain", 8, -1),),
                                           (("ring", 6, 0),), (("chain", 3, 0), ("ring", 4, 0))):
            for size in (None, 9, 64):
                update = sample(kind) if size is None else placed(kind, size, draw)
                for rules in [None] + ALL_RULES:
                    order = best_order(update, rules)
                    flushes = least_flushes(kind, rules)
                    if flushes is None:
                        self.assertIsNone(order)
                        continue
                    self.assertIs(type(order), list)
                    self.assertTrue(all(type(batch) is list for batch in order))
                    self.assertEqual(order, [sorted(batch) for batch in order])
                    self.assertEqual(len(order), flushes + 1 if kind else 0)
                    self.assertIsNone(check_order(update, order))
                    self.assertIsNone(wrong_image(update, order, rules))

    def test_best_orders_of_large_updates(self):
        for update in (Update(FREE_64, PAIRS_64), sample((("ring", 64, 0),)),
                       sample((("chain", 64, -1),)), sample((("chain", 9, 0),))):
            for rules in (None, ALL_RULES[31]):
                self.assertIsNone(best_order(update, rules))
        self.assertEqual(best_order(Update.rest(PAIRS_64)), [])
        self.assertEqual(best_order(Update(PAIRS_64, PAIRS_64[:62] + [62, 63])), [[62, 63]])

    def test_one_of_the_two_states_in_a_table(self):
        # Every write has neighbours that differ at 7 records at most, so 8 records are too many.
        for kind in all_kinds(8):
            if sum(length for _, length, _ in kind) > 7:
                for number in (0, 31):
                    self.assertIsNone(batches_by_search(kind, number))

    def test_invalid_kinds(self):
        for kind in BAD_KINDS:
            self.assert_error(InvalidKind(), least_flushes, kind)
            self.assert_error(InvalidKind(), least_flushes, kind, Rules())


class Writers(Case):
    """The words of [46]."""

    def test_several_writers_with_orders_that_are_borne(self):
        draw = Random(46)
        for number in (0, 4, 1, 16, 2, 21, 31):
            kinds = [kind for kind, _ in bearable(ALL_RULES[number])]
            for _ in range(25):
                kind = tuple(sorted(part for part in draw.choices(kinds, k=4) for part in part))
                many = sum(length for _, length, _ in kind)
                state, team = self.team(draw, [(entry,) for entry in kind], many)
                image = list(state)
                for update in team:
                    order = best_order(update, ALL_RULES[number])
                    done = [x for batch in order for x in draw.sample(batch, len(batch))]
                    for x in done[:draw.randint(0, len(done))]:
                        image[x] = update.after[x]
                self.assertTrue(is_repairable(image))
                repaired = repair_by_table(image, words_of(number))
                for update in team:
                    self.assertIn(update.outcome(repaired), ("done", "undone"))
                inside = [x for update in team for x in update.records]
                for x, name in enumerate(state):
                    if x not in inside:
                        self.assertEqual(repaired[x], name)

    def team(self, draw, kinds, many):
        size = many + 6
        records = draw.sample(range(size), size)
        state = list(range(size))
        pieces = []
        for kind in kinds:
            small = sample(kind)
            taken, records = records[:len(small)], records[len(small):]
            pieces.append((taken, small))
            for x, name in zip(taken, small.before):
                state[x] = taken[name]
        x, y = records[:2]
        state[x], state[y] = y, x
        team = []
        for taken, small in pieces:
            after = list(state)
            for x, name in zip(taken, small.after):
                after[x] = taken[name]
            team.append(Update(state, after))
        return state, team


class Verdicts(Case):

    def test_in_words(self):
        # The standard rules bear the order [[0, 3], [1, 2]].
        self.assertEqual(verdicts(FOUR, [0, 3, 1, 2]),
                         ["before", "before", "before", "after", "after"])
        self.assertEqual(verdicts(MOVE, [2, 0, 1]), ["before", "before", "after", "after"])
        self.assertEqual(verdicts(MOVE, [2, 0, 1], Rules(hook="forward")),
                         ["before", "after", "before", "after"])
        self.assertEqual(verdicts(REST, []), ["before"])
        self.assertEqual(verdicts(Update([], []), []), ["before"])
        # The hook (1, 2, 3) is settled without record 0, which is free already.
        self.assertEqual(verdicts(FOUR, [0, 1, 2, 3]),
                         ["before", "before", "other", "after", "after"])

    def test_all_sequences_by_all_rules(self):
        for kind in all_kinds(4):
            update = sample(kind)
            for sequence in permutations(update.records):
                for number, rules in enumerate(ALL_RULES):
                    expected = [word_of(update, written(update, sequence[:k]), words_of(number))
                                for k in range(len(sequence) + 1)]
                    if not update.records:
                        expected = ["before"]
                    self.assert_list(verdicts(update, list(sequence), rules), expected)
                    if number == 0:
                        self.assertEqual(verdicts(update, list(sequence)), expected)

    def test_larger_updates(self):
        draw = Random(47)
        for kind in LONG + ((("chain", 8, 1),), (("chain", 3, 0), ("ring", 4, 0))):
            for size in (9, 64):
                update = placed(kind, size, draw)
                sequence = update.records
                draw.shuffle(sequence)
                expected = [word_of(update, written(update, sequence[:k]), words_of(5))
                            for k in range(len(sequence) + 1)]
                self.assertEqual(verdicts(update, sequence, Rules.numbered(5)), expected)

    def test_lists_that_are_no_sequence(self):
        for update, sequence in ((FOUR, []), (FOUR, [0, 1, 2]), (FOUR, [0, 1, 2, 3, 3]),
                                 (FOUR, [0, 1, 2, 2]), (FOUR, [0, 1, 2, 4]), (MOVE, [0, 1, 3]),
                                 (FOUR, [0, 1, 2, -1]), (MOVE, [0, 1, 2, 3]), (REST, [0]),
                                 (REST, [9]), (MOVE, [0, 1, 2, 99])):
            self.assert_error(InvalidOrder(), verdicts, update, sequence)
            self.assert_error(InvalidOrder(), verdicts, update, sequence, Rules())


class Final(Case):

    def is_final_by_words(self, number):
        """The words of [48], for all updates of the kinds with up to 4 records."""
        for kind in all_kinds(4):
            for update in self.updates_of(kind):
                for order in all_orders(update.records):
                    if wrong_image(update, order, ALL_RULES[number]) is not None:
                        continue
                    for sequence in product(*[permutations(batch) for batch in order]):
                        words = verdicts(update, [x for part in sequence for x in part],
                                         ALL_RULES[number])
                        if "after" in words and "before" in words[words.index("after"):]:
                            return False
        return True

    def updates_of(self, kind):
        # A wheel depends on which of its records is the least, so each order is tried.
        small = sample(kind)
        for records in permutations(range(len(small))) if kind == SAFE[3] else [range(len(small))]:
            before, after = list(small.before), list(small.after)
            for x, record in enumerate(records):
                before[record] = records[small.before[x]]
                after[record] = records[small.after[x]]
            yield Update(before, after)

    def test_unfinal(self):
        for number, rules in enumerate(ALL_RULES):
            found = unfinal(rules)
            self.assertIs(found is None, unsteady(rules) is None)
            if found is None:
                continue
            self.assertIs(type(found), tuple)
            update, order, sequence = found
            self.assertLessEqual(len(update.before), 4)
            self.assertIsNone(check_order(update, order))
            self.assertIsNone(wrong_image(update, order, rules))
            left = list(sequence)
            for batch in order:
                self.assertEqual(sorted(left[:len(batch)]), sorted(batch))
                left = left[len(batch):]
            words = verdicts(update, sequence, rules)
            self.assertIn("before", words[words.index("after"):])
        self.assertIsNone(unfinal())
        self.assertIsNone(unfinal(None))

    def test_the_words(self):
        for number, rules in enumerate(ALL_RULES):
            self.assertIs(self.is_final_by_words(number), unfinal(rules) is None)

    def test_steady_rules_never_take_it_back_in_any_sequence(self):
        for number in (0, 2, 4, 6, 16, 18, 20, 22):
            rules = ALL_RULES[number]
            self.assertIsNone(unsteady(rules))
            for kind in all_kinds(6):
                update = sample(kind)
                sequences = list(permutations(update.records))
                for sequence in sequences[::max(len(sequences) // 60, 1)]:
                    words = verdicts(update, list(sequence), rules)
                    if "after" in words:
                        self.assertEqual(set(words[words.index("after"):]), {"after"} if kind
                                         else {"before"})
        for state in all_states(4):
            for change in changes_from(state):
                update = update_by(state, change)
                for sequence in permutations(update.records):
                    words = verdicts(update, list(sequence))
                    self.assertEqual(words, sorted(words, reverse=True))


class Copies(Case):

    def test_no_call_changes_its_arguments(self):
        update = Update([1, 0, 3, 2], [0, 2, 1, 3])
        order, sequence, rules = [[3, 0], [2, 1]], [3, 0, 2, 1], Rules(clamp="outer")
        for call in (lambda: check_order(update, order), lambda: list(order_images(update, order)),
                     lambda: wrong_image(update, order, rules), lambda: best_order(update, rules),
                     lambda: verdicts(update, sequence, rules), lambda: bearable(rules),
                     lambda: unfinal(rules), lambda: least_flushes((("chain", 4, 1),), rules)):
            call()
            self.assertEqual(update, FOUR)
            self.assertEqual((order, sequence), ([[3, 0], [2, 1]], [3, 0, 2, 1]))
            self.assertEqual(rules.number, 4)

    def test_changing_what_was_returned_has_no_effect(self):
        order = best_order(FOUR)
        expected = [list(batch) for batch in order]
        order[0].append(9)
        order.append([9])
        self.assertEqual(best_order(FOUR), expected)
        found = []
        for image in order_images(FOUR, [[0, 1], [2, 3]]):
            found.append(list(image))
            image.append(9)
        self.assertEqual(found, images_by_words(FOUR, [[0, 1], [2, 3]]))
        self.assertEqual(FOUR.after, [0, 2, 1, 3])
        wrong_image(FOUR, [[0, 1, 2, 3]]).append(9)
        self.assertEqual(len(wrong_image(FOUR, [[0, 1, 2, 3]])), 4)
        verdicts(FOUR, [0, 3, 1, 2]).append(9)
        self.assertEqual(len(verdicts(FOUR, [0, 3, 1, 2])), 5)
        bearable().clear()
        self.assertEqual(len(bearable()), 10)
        rules = Rules(hook="forward")
        for changed in unfinal(rules)[1:]:
            changed.clear()
        update, order, sequence = unfinal(rules)
        self.assertIsNone(check_order(update, order))
        self.assertEqual(len(sequence), len(update))
        order[0].clear()
        self.assertIsNone(check_order(update, unfinal(rules)[1]))


if __name__ == "__main__":
    unittest.main()
