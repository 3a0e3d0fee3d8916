"""Promises [2], [46] and [64] to [71]: peermend.desk."""

import unittest
from itertools import permutations
from random import Random

from helpers import (FREE_64, PAIRS_64, Case, drawn_state, repair_by_table, state_of, words_of)
from peermend import desk as module
from peermend.changes import changes_from, update_by
from peermend.clashes import is_safe
from peermend.desk import Desk, attempt
from peermend.errors import (Busy, Down, InvalidImage, InvalidOrder, InvalidRecord, InvalidUpdate,
                             MendError, NotDown, NothingToRedo, NothingToUndo, NotReady, NotState,
                             NoWriter, UnequalSizes, Unsafe, Written)
from peermend.orders import bearable, best_order
from peermend.rules import Rules
from peermend.updates import Update, sample

STEADY = (0, 2, 4, 6, 16, 18, 20, 22)
MOVE = Update([1, 0, 2], [2, 1, 0])
CHAIN = Update([1, 0, 3, 2], [0, 2, 1, 3])
CHAIN_ORDER = [[0, 3], [1, 2]]


def written_by_words(image, records, number):
    """The image with the names of its repair on these records."""
    state = repair_by_table(image, words_of(number))
    return [state[x] if x in records else name for x, name in enumerate(image)]


def outcome_by_words(update, image):
    records = [x for x in range(len(image)) if update.before[x] != update.after[x]]
    if any(image[x] not in (update.before[x], update.after[x]) for x in records):
        return "foreign"
    if all(image[x] == update.before[x] for x in records):
        return "undone"
    return "done" if all(image[x] == update.after[x] for x in records) else "torn"


class Model:
    """A desk by the words of [64] to [70], with copies of everything for undo and redo."""

    def __init__(self, state, number):
        self.number = number
        self.now = (list(state), False, {}, [], 0)
        self.past, self.coming = [], []

    def step(self, image, down, works, lost, begun):
        self.past.append(self.now)
        self.now = (list(image), down, dict(works), list(lost), begun)
        self.coming = []

    def begin(self, update, order):
        image, down, works, lost, begun = self.now
        works = dict(works)
        works[begun + 1] = (update, [list(batch) for batch in order], [])
        self.step(image, down, works, lost, begun + 1)
        return begun + 1

    def write(self, writer, record):
        image, down, works, lost, begun = self.now
        image, works = list(image), dict(works)
        update, order, done = works[writer]
        image[record] = update.after[record]
        works[writer] = (update, order, done + [record])
        closed = len(done) + 1 == len(update.records)
        if closed:
            del works[writer]
        self.step(image, down, works, lost, begun)
        return closed

    def crash(self):
        image, _, works, _, begun = self.now
        lost = [(writer, works[writer][0]) for writer in sorted(works)]
        self.step(image, True, {}, lost, begun)
        return [writer for writer, _ in lost]

    def recover_some(self, *records):
        image, _, _, lost, begun = self.now
        self.step(written_by_words(image, records, self.number), True, {}, lost, begun)

    def recover(self):
        image, _, _, lost, begun = self.now
        state = repair_by_table(image, words_of(self.number))
        self.step(state, False, {}, lost, begun)
        return [x for x in range(len(image)) if image[x] != state[x]]

    def writes(self):
        state = repair_by_table(self.now[0], words_of(self.number))
        return [x for x, name in enumerate(self.now[0]) if name != state[x]]

    def ready(self, writer):
        _, order, done = self.now[2][writer]
        for batch in order:
            left = sorted(x for x in batch if x not in done)
            if left:
                return left

    def undo(self):
        self.coming.append(self.now)
        self.now = self.past.pop()

    def redo(self):
        self.past.append(self.now)
        self.now = self.coming.pop()

    def branch(self):
        other = Model([], self.number)
        other.now, other.past, other.coming = self.now, list(self.past), list(self.coming)
        return other


class DeskCase(Case):

    def assert_same(self, desk, model):
        """All that the desk tells ([69])."""
        image, down, works, lost, begun = model.now
        self.assert_list(desk.table, image)
        self.assertIs(desk.down, down)
        self.assert_list(desk.writers, sorted(works))
        self.assertEqual(desk.deeds, len(model.past))
        state = repair_by_table(image, words_of(model.number))
        self.assert_list(desk.settled(), state)
        for writer in range(begun + 2):
            if writer in works:
                self.assert_list(desk.left(writer), model.ready(writer))
                self.assertEqual(desk.fate(writer), outcome_by_words(works[writer][0], state))
                self.assertIn(desk.fate(writer), ("done", "undone"))
            else:
                self.assert_error(NoWriter(writer), desk.left, writer)
                self.assert_error(NoWriter(writer), desk.fate, writer)
        self.assert_list(desk.fates(), [(writer, outcome_by_words(update, image))
                                        for writer, update in lost])

    def told(self, desk):
        return (desk.table, desk.down, desk.writers, desk.deeds, desk.settled(), desk.fates(),
                [(desk.left(writer), desk.fate(writer)) for writer in desk.writers])

    def history(self, desk):
        """What the desk tells now, and all that undo and redo lead to."""
        found = [self.told(desk)]
        other = desk.branch()
        while other.deeds:
            other.undo()
            found.append(self.told(other))
        other = desk.branch()
        while True:
            try:
                other.redo()
            except NothingToRedo:
                return found
            found.append(self.told(other))

    def assert_refused(self, error, desk, name, *given):
        """The deed raises the error and is no deed."""
        before = self.history(desk)
        self.assert_error(error, getattr(desk, name), *given)
        self.assert_error(error, attempt, desk, [(name, *given)])
        self.assertEqual(self.history(desk), before)


class Interface(DeskCase):

    def test_the_class_and_its_methods(self):
        self.assert_defined(module, "Desk", "attempt")
        for name in ("__init__", "begin", "write", "crash", "recover_some", "recover", "left",
                     "settled", "fate", "fates", "undo", "redo", "branch"):
            self.assertIn(name, vars(Desk))
        for name in ("table", "down", "writers", "deeds"):
            self.assertIsInstance(vars(Desk)[name], property)
        with self.assertRaises(TypeError):
            Desk([0], Rules())

    def test_the_example(self):
        desk = Desk([1, 0, 2])
        writer = desk.begin(Update([1, 0, 2], [2, 1, 0]))
        self.assertIs(desk.write(writer, 2), False)
        lost = desk.crash()
        self.assertEqual(
            [desk.table, lost, desk.fates(), desk.recover(), desk.table, desk.fates()],
            [[1, 0, 0], [1], [(1, "torn")], [2], [1, 0, 2], [(1, "undone")]])

    def test_the_first_state(self):
        for state in ([], [0], [1, 0, 2], FREE_64, PAIRS_64):
            desk = Desk(state)
            self.assert_same(desk, Model(state, 0))
        for state, error in (([1], InvalidImage(0)), ([0, -1], InvalidImage(1)),
                             ([1, 1], NotState(0)), ([0, 1, 1], NotState(2)),
                             ([1, 2, 3], InvalidImage(2))):
            self.assert_error(error, Desk, state)
            self.assert_error(error, Desk, state, rules=Rules())


class Begin(DeskCase):

    def test_numbers_from_one_on(self):
        desk = Desk(state_of(8, (0, 1), (2, 3)))
        self.assertEqual(desk.begin(update_by(desk.table, ("tie", (4, 5)))), 1)
        self.assertEqual(desk.begin(update_by(desk.table, ("tie", (6, 7)))), 2)
        self.assertEqual(desk.begin(update_by(desk.table, ("tie", (0, 1)))), 3)
        self.assertEqual((desk.writers, desk.deeds), ([1, 2, 3], 3))
        self.assertEqual(desk.table, state_of(8, (0, 1), (2, 3)))
        self.assertIs(desk.write(2, 7), False)
        self.assertIs(desk.write(2, 6), True)
        self.assertEqual(desk.writers, [1, 3])
        self.assertEqual(desk.begin(update_by(desk.table, ("tie", (6, 7)))), 4)
        self.assertEqual(desk.crash(), [1, 3, 4])
        desk.recover()
        self.assertEqual(desk.begin(update_by(desk.table, ("tie", (6, 7)))), 5)

    def test_only_the_records_of_the_update_count(self):
        desk = Desk([1, 0, 2, 3, 4])
        # Elsewhere its states show free records or another pair than the table.
        self.assertEqual(desk.begin(Update([0, 1, 2, 3, 4], [0, 1, 2, 4, 3])), 1)
        self.assertEqual(desk.begin(Update([1, 0, 2, 4, 3], [2, 1, 0, 4, 3])), 2)
        desk.write(2, 2)
        self.assertEqual(desk.table, [1, 0, 0, 3, 4])
        desk.write(1, 3)
        self.assertEqual(desk.table, [1, 0, 0, 4, 4])

    def test_the_errors_in_their_order(self):
        size = 9
        desk = Desk(state_of(size, (0, 1), (2, 3)))
        state = desk.table
        desk.begin(update_by(state, ("tie", (4, 5))))
        desk.begin(update_by(state, ("move", (0, 1, 6))))
        desk.write(1, 4)
        wide = Update([0, 1], [1, 0])
        rest = Update.rest(state)
        busy = update_by(state_of(size, (0, 1), (2, 3)), ("tie", (0, 1)))
        # Its least record is free, the next ones are records of open writers.
        busier = Update(state_of(size, (6, 8)), state_of(size, (5, 6), (7, 8)))
        other = Update(state_of(size, (2, 7)), state_of(size))
        chain = Update(state_of(size, (2, 3)), state_of(size, (2, 7), (3, 8)))
        good = Update(state_of(size, (2, 3)), state_of(size, (3, 7)))
        no_order = [[2, 3]]
        self.assert_refused(UnequalSizes(), desk, "begin", wide)
        self.assert_refused(UnequalSizes(), desk, "begin", Update([], []), [[7]])
        self.assert_refused(UnequalSizes(), desk, "begin", Update.rest([0, 1]), no_order)
        self.assert_refused(InvalidUpdate(), desk, "begin", rest)
        self.assert_refused(InvalidUpdate(), desk, "begin", rest, no_order)
        self.assert_refused(Busy(0), desk, "begin", busy)
        self.assert_refused(Busy(0), desk, "begin", busy, no_order)
        self.assert_refused(Busy(5), desk, "begin", busier, no_order)
        # Written records are busy too, and busy comes before a table that shows other names.
        self.assert_refused(Busy(4), desk, "begin", update_by(state_of(size), ("tie", (4, 7))))
        self.assert_refused(InvalidUpdate(), desk, "begin", other)
        self.assert_refused(InvalidUpdate(), desk, "begin", other, no_order)
        for order in (no_order, [], [[2, 3, 7], []], [[2, 3, 7, 6]], [[2], [3], [7], [2]]):
            self.assert_refused(InvalidOrder(), desk, "begin", good, order)
            self.assert_refused(InvalidOrder(), desk, "begin", chain, order)
        self.assert_refused(Unsafe(chain.kind), desk, "begin", chain)
        self.assert_refused(Unsafe(chain.kind), desk, "begin", chain, [[7, 2], [3, 8]])
        self.assertEqual(desk.begin(good, [[7], [2, 3]]), 3)
        desk.crash()
        for update in (wide, rest, busy, other, good, chain):
            self.assert_refused(Down(), desk, "begin", update)
            self.assert_refused(Down(), desk, "begin", update, no_order)

    def test_large_updates_are_refused_at_once(self):
        desk = Desk(FREE_64)
        update = Update(FREE_64, PAIRS_64)
        for order in (None, [FREE_64], [[x] for x in range(64)]):
            self.assert_refused(Unsafe(update.kind), desk, "begin", update, order)
        self.assert_refused(InvalidOrder(), desk, "begin", update, [FREE_64[:63]])
        for kind in ((("chain", 8, 1),), (("chain", 64, 1),), (("ring", 64, 0),)):
            update = sample(kind)
            desk = Desk(update.before)
            self.assert_refused(Unsafe(kind), desk, "begin", update)
            self.assert_refused(Unsafe(kind), desk, "begin", update, [[x] for x in update.records])

    def test_the_rules_of_the_desk_decide(self):
        self.assertEqual(Desk(CHAIN.before).begin(CHAIN, CHAIN_ORDER), 1)
        self.assert_refused(Unsafe(CHAIN.kind), Desk(CHAIN.before), "begin", CHAIN)
        for number in range(32):
            rules = Rules.numbered(number)
            order = best_order(CHAIN, rules)
            desk = Desk(CHAIN.before, rules=rules)
            if order is None:
                self.assert_refused(Unsafe(CHAIN.kind), desk, "begin", CHAIN, CHAIN_ORDER)
            else:
                self.assertEqual(desk.begin(CHAIN, order), 1)
            self.assertEqual(Desk([1, 0, 2], rules=rules).begin(MOVE), 1)


class Write(DeskCase):

    def test_the_errors_in_their_order(self):
        desk = Desk(state_of(7, (0, 1), (2, 3)))
        update = Update(desk.table, state_of(7, (1, 2)))
        self.assert_refused(NoWriter(1), desk, "write", 1, 0)
        self.assertEqual(desk.begin(update, CHAIN_ORDER), 1)
        self.assertEqual(desk.left(1), [0, 3])
        for writer in (0, 2, -1, 99):
            self.assert_refused(NoWriter(writer), desk, "write", writer, 0)
            self.assert_refused(NoWriter(writer), desk, "write", writer, 99)
        for record in (4, 6, 7, -1, 99):
            self.assert_refused(InvalidRecord(record), desk, "write", 1, record)
        for record in (1, 2):
            self.assert_refused(NotReady(record), desk, "write", 1, record)
        self.assertIs(desk.write(1, 3), False)
        self.assertEqual(desk.left(1), [0])
        self.assert_refused(Written(3), desk, "write", 1, 3)
        self.assert_refused(NotReady(1), desk, "write", 1, 1)
        self.assertIs(desk.write(1, 0), False)
        self.assertEqual(desk.left(1), [1, 2])
        self.assert_refused(Written(0), desk, "write", 1, 0)
        self.assertIs(desk.write(1, 2), False)
        self.assert_refused(Written(2), desk, "write", 1, 2)
        self.assertIs(desk.write(1, 1), True)
        self.assertEqual((desk.table, desk.writers), (state_of(7, (1, 2)), []))
        # A writer that is closed is none.
        self.assert_refused(NoWriter(1), desk, "write", 1, 1)
        self.assert_refused(NoWriter(1), desk, "write", 1, 99)
        desk.crash()
        self.assert_refused(Down(), desk, "write", 1, 0)
        self.assert_refused(Down(), desk, "write", 99, 99)

    def test_lost_writers_write_no_more(self):
        desk = Desk([1, 0, 2])
        desk.begin(MOVE)
        desk.crash()
        desk.recover()
        self.assert_refused(NoWriter(1), desk, "write", 1, 0)


class Recovery(DeskCase):

    def test_crash(self):
        desk = Desk([1, 0, 2, 3, 4])
        self.assertEqual(desk.crash(), [])
        self.assertIs(desk.down, True)
        self.assertEqual((desk.fates(), desk.deeds), ([], 1))
        self.assert_refused(Down(), desk, "crash")
        self.assertEqual(desk.recover(), [])
        desk.begin(Update([1, 0, 2, 3, 4], [2, 1, 0, 3, 4]))
        desk.begin(update_by(desk.table, ("tie", (3, 4))))
        desk.write(1, 1)
        desk.write(2, 4)
        self.assertEqual(desk.crash(), [1, 2])
        self.assertEqual((desk.table, desk.writers), ([1, 1, 2, 3, 3], []))
        self.assertEqual(desk.fates(), [(1, "torn"), (2, "torn")])
        self.assert_refused(Down(), desk, "crash")
        self.assertEqual(desk.recover(), [1, 3])
        self.assertEqual(desk.fates(), [(1, "undone"), (2, "done")])
        # A crash without writers leaves no fates.
        self.assertEqual(desk.crash(), [])
        self.assertEqual(desk.fates(), [])

    def test_recover_some(self):
        desk = Desk([1, 0, 3, 2, 5, 4])
        self.assert_refused(NotDown(), desk, "recover_some")
        self.assert_refused(NotDown(), desk, "recover_some", 99)
        self.assert_refused(NotDown(), desk, "recover")
        desk.begin(Update(desk.table, [3, 2, 1, 0, 5, 4]))
        desk.write(1, 0)
        desk.write(1, 2)
        desk.crash()
        # The wheel (0, 3, 2, 1) becomes the pairs 0-3 and 2-1.
        self.assertEqual(desk.table, [3, 0, 1, 2, 5, 4])
        self.assertEqual(desk.settled(), [3, 2, 1, 0, 5, 4])
        writes = [1, 3]
        for wrong in [x for x in range(6) if x not in writes] + [-1, 6, 99]:
            self.assert_refused(InvalidRecord(wrong), desk, "recover_some", wrong)
            self.assert_refused(InvalidRecord(wrong), desk, "recover_some", writes[0], wrong, 77)
        before = desk.table
        self.assertIsNone(desk.recover_some())
        self.assertEqual((desk.table, desk.down, desk.deeds), (before, True, 5))
        self.assertIsNone(desk.recover_some(writes[1], writes[1]))
        self.assertEqual(desk.table, written_by_words(before, writes[1:2], 0))
        self.assert_refused(InvalidRecord(writes[1]), desk, "recover_some", writes[1])
        self.assertIsNone(desk.recover_some(*writes[:1]))
        self.assertIs(desk.down, True)
        self.assertEqual(desk.settled(), desk.table)
        self.assertEqual(desk.recover(), [])
        self.assertIs(desk.down, False)
        self.assert_refused(NotDown(), desk, "recover")

    def test_the_names_are_those_of_the_table_at_the_call(self):
        # With these rules the two halves of a repair go to different pairs.
        desk = Desk([1, 0, 2], rules=Rules(hook="forward"))
        desk.begin(MOVE)
        desk.write(1, 2)
        desk.crash()
        self.assertEqual(desk.settled(), [2, 1, 0])
        desk.recover_some(0)
        self.assertEqual((desk.table, desk.settled()), ([2, 0, 0], [1, 0, 2]))
        self.assertEqual(desk.recover(), [0, 2])
        self.assertEqual(desk.fates(), [(1, "undone")])

    def test_fates_after_later_writers(self):
        desk = Desk([0, 1])
        desk.begin(Update([0, 1], [1, 0]))
        desk.write(1, 0)
        desk.crash()
        desk.recover()
        self.assertEqual(desk.fates(), [(1, "done")])
        desk.begin(Update([1, 0], [0, 1]))
        desk.write(2, 1)
        self.assertEqual(desk.fates(), [(1, "torn")])
        desk.write(2, 0)
        self.assertEqual(desk.fates(), [(1, "undone")])


class Runs(DeskCase):

    def drawn_update(self, draw, model, rules):
        """An update of a safe kind, or of another that the rules bear, with an order."""
        image, _, works, _, _ = model.now
        taken = {x for update, _, _ in works.values() for x in update.records}
        base = [x if x in taken else name for x, name in enumerate(image)]
        if draw.random() < 0.3:
            pairs = [(x, base[x]) for x in range(len(base)) if base[x] > x]
            if len(pairs) >= 2:
                (a, b), (c, d) = draw.sample(pairs, 2)
                after = list(base)
                after[a], after[b], after[c], after[d] = a, c, b, d
                update = Update(base, after)
                order = best_order(update, rules)
                if order is not None:
                    return update, order
        updates = [update_by(base, change) for change in changes_from(base)]
        updates = [update for update in updates if taken.isdisjoint(update.records)]
        if not updates:
            return None
        update = draw.choice(updates)
        order = None
        if draw.random() < 0.5:
            records = draw.sample(update.records, len(update))
            cut = draw.randint(1, len(records))
            order = [batch for batch in (records[:cut], records[cut:]) if batch]
        return update, order

    def drawn_deed(self, draw, desk, model, rules):
        """Do one deed at the desk and at the model, and compare what they return."""
        _, down, works, _, _ = model.now
        if down:
            writes = model.writes()
            if draw.random() < 0.5:
                records = draw.sample(writes, draw.randint(0, len(writes)))
                self.assertIsNone(desk.recover_some(*records))
                model.recover_some(*records)
            else:
                self.assert_list(desk.recover(), model.recover())
            return
        chance = draw.random()
        if works and chance < 0.6:
            writer = draw.choice(sorted(works))
            record = draw.choice(model.ready(writer))
            self.assertIs(desk.write(writer, record), model.write(writer, record))
        elif chance < 0.93:
            found = self.drawn_update(draw, model, rules)
            if found is not None:
                update, order = found
                self.assertEqual(desk.begin(update, order),
                                 model.begin(update, [update.records] if order is None else order))
        else:
            self.assert_list(desk.crash(), model.crash())

    def test_runs_by_many_rules(self):
        draw = Random(64)
        for number in range(32):
            for size in (4, 7, 12):
                rules = Rules.numbered(number)
                state = drawn_state(draw, size)
                desk, model = Desk(state, rules=rules), Model(state, number)
                for _ in range(60):
                    if model.coming and draw.random() < 0.5:
                        self.assertIsNone(desk.redo())
                        model.redo()
                    elif model.past and draw.random() < 0.12:
                        self.assertIsNone(desk.undo())
                        model.undo()
                    else:
                        self.drawn_deed(draw, desk, model, rules)
                    self.assert_same(desk, model)
                self.assert_back_and_forth(desk, model)

    def test_a_large_table(self):
        draw = Random(640)
        state = drawn_state(draw, 64)
        desk, model = Desk(state), Model(state, 0)
        for _ in range(150):
            self.drawn_deed(draw, desk, model, Rules())
            self.assert_same(desk, model)
        self.assert_back_and_forth(desk, model)

    def assert_back_and_forth(self, desk, model):
        while model.past:
            desk.undo()
            model.undo()
            self.assert_same(desk, model)
        self.assert_error(NothingToUndo(), desk.undo)
        while model.coming:
            desk.redo()
            model.redo()
            self.assert_same(desk, model)
        self.assert_error(NothingToRedo(), desk.redo)

    def test_fates_are_kept_through_recovery(self):
        """The words of [69], and of [46] and [48] on the desk."""
        draw = Random(69)
        for number in range(32):
            rules = Rules.numbered(number)
            for _ in range(12):
                state = drawn_state(draw, 10)
                desk, model = Desk(state, rules=rules), Model(state, number)
                for _ in range(draw.randint(3, 25)):
                    chance = draw.random()
                    if model.now[2] and chance < 0.7:
                        writer = draw.choice(sorted(model.now[2]))
                        record = draw.choice(model.ready(writer))
                        desk.write(writer, record)
                        model.write(writer, record)
                    else:
                        found = self.drawn_update(draw, model, rules)
                        if found is not None:
                            desk.begin(*found)
                            model.begin(found[0], found[1] or [found[0].records])
                fates = [(writer, desk.fate(writer)) for writer in desk.writers]
                works = {writer: work[0] for writer, work in model.now[2].items()}
                inside = [x for update in works.values() for x in update.records]
                table = desk.table
                self.assertEqual(desk.crash(), [writer for writer, _ in fates])
                some = draw.random() < 0.5
                while some and draw.random() < 0.7:
                    writes = [x for x in range(10) if desk.table[x] != desk.settled()[x]]
                    desk.recover_some(*draw.sample(writes, draw.randint(0, len(writes))))
                    for writer, word in desk.fates():
                        self.assertIn(word, ("done", "undone", "torn") + ("foreign",)
                                      * (number not in STEADY))
                desk.recover()
                if number in STEADY or not some:
                    self.assertEqual(desk.fates(), fates)
                for writer, word in desk.fates():
                    if is_safe(works[writer].kind) or number in STEADY:
                        self.assertIn(word, ("done", "undone"))
                for x in range(10):
                    if x not in inside:
                        self.assertEqual(desk.table[x], table[x])


    def test_several_writers_with_orders_stopped_at_any_moment(self):
        draw = Random(48)
        for number in (0, 4, 16, 20, 1, 2, 9, 31):
            rules = Rules.numbered(number)
            kinds = [kind for kind, _ in bearable(rules)]
            for _ in range(4):
                chosen = draw.choices(kinds, k=4)
                updates, rest = self.side_by_side([sample(kind) for kind in chosen])
                desk = Desk(updates[0].before, rules=rules)
                writers = {desk.begin(update, best_order(update, rules)): update
                           for update in updates}
                self.assert_stopped(desk, writers, rest, number)
                words = {writer: ["undone"] for writer in writers}
                while desk.writers:
                    writer = draw.choice(desk.writers)
                    desk.write(writer, draw.choice(desk.left(writer)))
                    self.assert_stopped(desk, writers, rest, number)
                    words[writer].append(writers[writer].outcome(desk.settled()))
                for told in words.values():
                    self.assertEqual(told[-1], "done")
                    if number in STEADY:
                        # Once an update is committed, no later write takes it back.
                        self.assertEqual(told, sorted(told, reverse=True))

    def side_by_side(self, samples):
        """Updates from one state with the records of each sample, and two pairs beside them."""
        many = sum(len(small) for small in samples)
        state = list(range(many)) + [many + 1, many, many + 3, many + 2]
        start = 0
        for small in samples:
            state[start:start + len(small)] = [start + name for name in small.before]
            start += len(small)
        updates, start = [], 0
        for small in samples:
            after = list(state)
            after[start:start + len(small)] = [start + name for name in small.after]
            updates.append(Update(state, after))
            start += len(small)
        return updates, list(range(many, many + 4))

    def assert_stopped(self, desk, writers, rest, number):
        stopped = desk.branch()
        fates = [(writer, desk.fate(writer)) for writer in desk.writers]
        self.assertEqual(stopped.crash(), desk.writers)
        stopped.recover()
        self.assertEqual(stopped.table, repair_by_table(desk.table, words_of(number)))
        self.assertEqual(stopped.fates(), fates)
        for update in writers.values():
            self.assertIn(update.outcome(stopped.table), ("done", "undone"))
            for x in rest:
                self.assertEqual(stopped.table[x], update.before[x])


class UndoRedo(DeskCase):

    def test_nothing_to_undo_or_redo(self):
        desk = Desk([1, 0, 2])
        self.assert_error(NothingToUndo(), desk.undo)
        self.assert_error(NothingToRedo(), desk.redo)
        desk.begin(MOVE)
        self.assert_error(NothingToRedo(), desk.redo)
        desk.undo()
        self.assert_error(NothingToUndo(), desk.undo)
        desk.redo()
        self.assert_error(NothingToRedo(), desk.redo)
        self.assertEqual((desk.writers, desk.deeds), ([1], 1))

    def test_the_next_writer_gets_the_same_number_again(self):
        desk = Desk([1, 0, 2, 3, 4])
        self.assertEqual(desk.begin(update_by(desk.table, ("tie", (3, 4)))), 1)
        desk.undo()
        self.assertEqual(desk.begin(update_by(desk.table, ("tie", (2, 4)))), 1)
        self.assertEqual(desk.left(1), [2, 4])
        self.assert_error(NothingToRedo(), desk.redo)

    def test_a_new_deed_empties_redo(self):
        for deed in (("crash",), ("begin", update_by([1, 0, 2, 3], ("tie", (2, 3))))):
            desk = Desk([1, 0, 2, 3])
            desk.begin(Update([1, 0, 2, 3], [2, 1, 0, 3]))
            desk.write(1, 0)
            desk.undo()
            desk.undo()
            getattr(desk, deed[0])(*deed[1:])
            self.assert_error(NothingToRedo(), desk.redo)
            self.assertEqual(desk.deeds, 1)
        desk = Desk([1, 0, 2])
        desk.begin(MOVE)
        desk.write(1, 2)
        desk.crash()
        desk.recover()
        desk.undo()
        # A deed that changes nothing is a deed, and a call that raises an error is none.
        self.assert_error(InvalidRecord(0), desk.recover_some, 0)
        desk.redo()
        desk.undo()
        desk.recover_some()
        self.assert_error(NothingToRedo(), desk.redo)
        self.assertEqual(desk.deeds, 4)
        desk.undo()
        self.assertEqual(desk.deeds, 3)

    def test_while_the_desk_is_down(self):
        desk = Desk([1, 0, 2])
        desk.begin(MOVE)
        desk.write(1, 2)
        desk.crash()
        desk.undo()
        self.assertEqual((desk.down, desk.writers, desk.left(1), desk.fates()),
                         (False, [1], [0, 1], []))
        desk.redo()
        self.assertEqual((desk.down, desk.writers, desk.fates()), (True, [], [(1, "torn")]))
        desk.recover_some(2)
        self.assertEqual(desk.fates(), [(1, "undone")])
        desk.undo()
        self.assertEqual((desk.table, desk.down, desk.fates()), ([1, 0, 0], True, [(1, "torn")]))


class Branches(DeskCase):

    def states_of_a_desk(self):
        """The same desk up, down, and in the middle of undone deeds."""
        desk = Desk([1, 0, 2, 3, 4], rules=Rules(clamp="outer"))
        yield desk
        desk.begin(Update([1, 0, 2, 3, 4], [2, 1, 0, 3, 4]))
        desk.begin(update_by([1, 0, 2, 3, 4], ("tie", (3, 4))), [[4], [3]])
        desk.write(1, 2)
        desk.write(2, 4)
        yield desk
        desk.crash()
        yield desk
        desk.recover_some(2)
        desk.undo()
        yield desk
        desk.undo()
        desk.undo()
        yield desk

    def test_a_branch_is_the_same_in_everything(self):
        for desk in self.states_of_a_desk():
            other = desk.branch()
            self.assertIs(type(other), Desk)
            self.assertIsNot(other, desk)
            self.assertEqual(self.history(other), self.history(desk))

    def test_neither_has_an_effect_on_the_other(self):
        for at in range(5):
            for first in (0, 1):
                desk = list(self.one(at))[0]
                other = desk.branch()
                before = self.history(desk)
                used, kept = ((desk, other), (other, desk))[first]
                self.use(used)
                self.assertEqual(self.history(kept), before)
                again = kept.branch()
                self.use(again)
                self.assertEqual(self.history(again), self.history(used))

    def one(self, wanted):
        for at, desk in enumerate(self.states_of_a_desk()):
            if at == wanted:
                yield desk
                return

    def use(self, desk):
        if desk.deeds:
            desk.undo()
        if not desk.down:
            desk.crash()
        desk.recover()
        state = desk.table
        desk.begin(update_by(state, next(changes_from(state))))
        writer = desk.writers[-1]
        desk.write(writer, desk.left(writer)[0])

    def test_a_branch_keeps_the_rules(self):
        desk = Desk([1, 0, 2], rules=Rules(hook="forward"))
        desk.begin(MOVE)
        desk.write(1, 2)
        other = desk.branch()
        self.assertEqual((other.fate(1), desk.fate(1)), ("done", "done"))


class Attempts(DeskCase):

    def test_success(self):
        desk = Desk([1, 0, 2])
        deeds = [("begin", MOVE), ("write", 1, 2), ("crash",), ("recover_some", 2), ("recover",),
                 ("begin", MOVE, [[1], [2, 0]]), ("write", 2, 1), ("write", 2, 0), ("write", 2, 2)]
        told = attempt(desk, deeds)
        self.assert_list(told, [1, False, [1], None, [], 2, False, False, True])
        self.assertEqual((desk.table, desk.deeds), ([2, 1, 0], 9))
        self.assertEqual(len(deeds), 9)
        # Undo takes them back one by one.
        other = Desk([1, 0, 2])
        for deed in deeds:
            getattr(other, deed[0])(*deed[1:])
        self.assertEqual(self.history(desk), self.history(other))
        self.assert_error(NothingToRedo(), desk.redo)

    def test_no_deeds(self):
        desk = Desk([1, 0, 2])
        desk.begin(MOVE)
        desk.undo()
        before = self.history(desk)
        self.assert_list(attempt(desk, []), [])
        self.assertEqual(self.history(desk), before)
        desk.redo()
        self.assertEqual(desk.writers, [1])

    def test_success_empties_redo(self):
        desk = Desk([1, 0, 2])
        desk.begin(MOVE)
        desk.undo()
        self.assertEqual(attempt(desk, [("crash",)]), [[]])
        self.assert_error(NothingToRedo(), desk.redo)

    def test_an_error_in_the_middle(self):
        for bad, error in ((("write", 1, 9), InvalidRecord(9)), (("write", 7, 1), NoWriter(7)),
                           (("begin", MOVE), Busy(0)), (("recover",), NotDown()),
                           (("recover_some",), NotDown()), (("write", 1, 2), Written(2)),
                           (("begin", Update([0], [0])), UnequalSizes()),
                           (("begin", Update.rest([1, 0, 2])), InvalidUpdate())):
            desk = Desk([1, 0, 2])
            desk.begin(MOVE)
            desk.write(1, 2)
            desk.undo()
            before = self.history(desk)
            for later in ([], [("crash",)], [("write", 1, 0), ("write", 1, 1)]):
                deeds = [("write", 1, 2), bad] + later
                self.assert_error(error, attempt, desk, deeds)
                self.assertEqual(self.history(desk), before)
            desk.redo()
            self.assertEqual(desk.table, [1, 0, 0])
        desk = Desk([1, 0, 2])
        self.assert_error(Down(), attempt, desk, [("crash",), ("crash",)])
        self.assert_error(Down(), attempt, desk, [("crash",), ("begin", MOVE)])
        self.assert_error(InvalidOrder(), attempt, desk, [("begin", MOVE, [])])
        self.assert_error(NotReady(0), attempt, desk,
                          [("begin", MOVE, [[1, 2], [0]]), ("write", 1, 1), ("write", 1, 0)])
        self.assertEqual((desk.deeds, desk.down, desk.writers), (0, False, []))

    def test_the_same_as_by_hand(self):
        for records in permutations([0, 1, 2]):
            by_hand, tried = Desk([1, 0, 2]), Desk([1, 0, 2])
            by_hand.begin(MOVE)
            for record in records:
                by_hand.write(1, record)
            attempt(tried, [("begin", MOVE)] + [("write", 1, record) for record in records])
            self.assertEqual(self.history(tried), self.history(by_hand))


class Copies(DeskCase):

    def test_what_was_passed_and_changed_afterwards_has_no_effect(self):
        state, rules, order = [1, 0, 3, 2], Rules(), [[0, 3], [1, 2]]
        desk = Desk(state, rules=rules)
        state[0] = 9
        rules.hook = "forward"
        rules.clamp = "outer"
        self.assertEqual(desk.table, [1, 0, 3, 2])
        desk.begin(CHAIN, order)
        order[0].append(1)
        order[1].clear()
        order.append([7])
        self.assertEqual(desk.left(1), [0, 3])
        desk.write(1, 3)
        desk.write(1, 0)
        self.assertEqual(desk.left(1), [1, 2])
        desk.write(1, 1)
        # The image [0, 2, 3, 2] has a hook, which the standard rules settle backwards.
        self.assertEqual(desk.settled(), repair_by_table(desk.table))
        self.assertEqual(CHAIN, Update([1, 0, 3, 2], [0, 2, 1, 3]))
        self.assertEqual(rules.number, 5)

    def test_nothing_that_is_passed_is_changed(self):
        rules, order, deeds = Rules(), [[3, 0], [2, 1]], [("begin", CHAIN, [[3, 0], [2, 1]])]
        desk = Desk([1, 0, 3, 2], rules=rules)
        desk.begin(CHAIN, order)
        desk.undo()
        attempt(desk, deeds)
        desk.write(1, 0)
        desk.crash()
        desk.recover()
        self.assertEqual((rules.number, order, deeds),
                         (0, [[3, 0], [2, 1]], [("begin", CHAIN, [[3, 0], [2, 1]])]))
        self.assertEqual(CHAIN, Update([1, 0, 3, 2], [0, 2, 1, 3]))

    def test_changing_what_was_returned_has_no_effect(self):
        desk = Desk([1, 0, 2, 3, 4])
        desk.begin(Update([1, 0, 2, 3, 4], [2, 1, 0, 3, 4]))
        desk.begin(update_by([1, 0, 2, 3, 4], ("tie", (3, 4))))
        desk.write(1, 2)
        before = self.history(desk)
        for found in (desk.table, desk.writers, desk.left(1), desk.settled(), desk.fates()):
            found.append(9)
            found[0] = 9
        self.assertEqual(self.history(desk), before)
        desk.crash().append(9)
        desk.fates().clear()
        self.assertEqual([writer for writer, _ in desk.fates()], [1, 2])
        desk.recover().append(9)
        self.assertEqual(desk.table, [1, 0, 2, 3, 4])
        attempt(desk, [("crash",)])[0].append(9)
        self.assertEqual(desk.fates(), [])

    def test_errors_are_those_of_the_program(self):
        with self.assertRaises(MendError):
            Desk([0]).undo()

    def test_the_orders_that_the_standard_rules_bear(self):
        for kind, _ in bearable():
            update = sample(kind)
            desk = Desk(update.before)
            writer = desk.begin(update, best_order(update))
            seen = []
            while desk.writers:
                seen.append(desk.fate(writer))
                desk.write(writer, desk.left(writer)[-1])
            self.assertEqual(seen, sorted(seen, reverse=True))
            self.assertEqual(desk.table, update.after)


if __name__ == "__main__":
    unittest.main()
