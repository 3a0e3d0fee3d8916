"""Promises [57] to [63]: peermend.books."""

import unittest
from functools import lru_cache
from itertools import combinations_with_replacement, permutations, product
from random import Random

from helpers import Case, all_images, all_kinds, all_states, drawn_state, state_of
from peermend import books
from peermend.books import Book, PairBook, ParityBook, RingBook, SlotBook
from peermend.clashes import Clash
from peermend.errors import InvalidImage, InvalidKind, InvalidSize, NotInBook, UnequalSizes, Unrepairable
from peermend.kinds import kind_of, sample_rows
from peermend.pieces import is_repairable
from peermend.repair import repair

METHODS = ("is_state", "kind_between", "is_safe", "can_come_up", "mended", "clash", "crowd")
SAFE = {PairBook: [(), (("chain", 2, -1),), (("chain", 2, 1),), (("chain", 3, 0),),
                   (("ring", 4, 0),)],
        SlotBook: [(), (2,)], ParityBook: [(), (3,)], RingBook: [(), (3,)]}


def circles_by_words(row):
    """The numbers of slots of the circles from each slot x to slot row[x]."""
    found, left = [], set(range(len(row)))
    while left:
        start = here = min(left)
        many = 0
        while here in left:
            left.remove(here)
            many += 1
            here = row[here]
        assert here == start
        found.append(many)
    return sorted(found)


def is_permutation(row):
    return sorted(row) == list(range(len(row)))


def is_state_by_words(book, row):
    """The words of [59] to [62]."""
    if isinstance(book, PairBook):
        return all(row[name] == x for x, name in enumerate(row))
    if not is_permutation(row):
        return False
    if isinstance(book, RingBook):
        return circles_by_words(row) == [len(row)]
    if isinstance(book, ParityBook):
        return ((len(row) - len(circles_by_words(row))) % 2 == 1) == book.odd
    return True


def kind_by_words(book, before, after):
    if isinstance(book, PairBook):
        return kind_of(before, after)
    if isinstance(book, RingBook):
        many = sum(old != new for old, new in zip(before, after))
        return (many,) if many else ()
    return tuple(many for many in circles_by_words([before.index(block) for block in after])
                 if many >= 2)


def all_books(size):
    """All books of a size, in words of one each."""
    found = [PairBook(size), SlotBook(size)]
    if size >= 3:
        found += [ParityBook(size), ParityBook(size, odd=True), RingBook(size)]
    return found


def states_of(book):
    if isinstance(book, PairBook):
        return all_states(book.size)
    return [list(row) for row in permutations(range(book.size)) if is_state_by_words(book, row)]


@lru_cache(maxsize=None)
def kinds_of(size, at):
    """All kinds of the updates of a book, from all pairs of its states."""
    book = all_books(size)[at]
    rows = states_of(book)
    return {kind_by_words(book, before, after) for before in rows[:30] for after in rows}


def mended_by_words(book, image):
    """The row to which the book mends the image, or None if it cannot come up."""
    if is_state_by_words(book, image):
        return list(image)
    if isinstance(book, PairBook):
        return repair(image) if is_repairable(image) else None
    missing = set(range(book.size)) - set(image)
    if len(missing) != 1:
        return None
    low, high = [x for x, block in enumerate(image) if image.count(block) == 2]
    rows = [[min(missing) if x == slot else block for x, block in enumerate(image)]
            for slot in (low, high)]
    if not isinstance(book, ParityBook):
        return rows[1]
    odd = [(book.size - len(circles_by_words(row))) % 2 == 1 for row in rows]
    assert odd[0] != odd[1]
    row = rows[odd.index(book.odd)]
    if isinstance(book, RingBook):
        if any(x == block for x, block in enumerate(image)) or not is_state_by_words(book, row):
            return None
    return row


def torn_images(before, after):
    for done in product((0, 1), repeat=len(before)):
        yield [(before, after)[side][x] for x, side in enumerate(done)]


def drawn_row(book, draw):
    """A state of a book of any size."""
    if isinstance(book, PairBook):
        return drawn_state(draw, book.size)
    row = list(range(book.size))
    draw.shuffle(row)
    if isinstance(book, RingBook):
        return [row[(row.index(x) + 1) % book.size] for x in range(book.size)]
    if not is_state_by_words(book, row):
        row[0], row[1] = row[1], row[0]
    return row


class Interface(Case):

    def test_the_classes_and_their_methods(self):
        self.assert_defined(books, "Book", "PairBook", "SlotBook", "ParityBook", "RingBook")
        for one in (PairBook, SlotBook, ParityBook, RingBook):
            for name in METHODS:
                self.assertIn(name, vars(one))
            self.assertTrue(issubclass(one, Book))
        self.assertIn("check", vars(Book))
        self.assertEqual([one.LEAST for one in (Book, PairBook, SlotBook, ParityBook, RingBook)],
                         [1, 1, 1, 3, 3])
        self.assertTrue(issubclass(ParityBook, SlotBook) and issubclass(RingBook, ParityBook))

    def test_sizes(self):
        for one in (Book, PairBook, SlotBook, ParityBook, RingBook):
            for size in (-5, -1, 0, one.LEAST - 1):
                self.assert_error(InvalidSize(size), one, size)
            for size in (one.LEAST, one.LEAST + 1, 40):
                self.assertEqual(one(size).size, size)
        self.assert_error(InvalidSize(2), ParityBook, 2, odd=True)

    def test_odd(self):
        self.assertIs(ParityBook(5).odd, False)
        self.assertIs(ParityBook(5, odd=False).odd, False)
        self.assertIs(ParityBook(5, odd=True).odd, True)
        for size in range(3, 41):
            self.assertIs(RingBook(size).odd, size % 2 == 0)
        with self.assertRaises(TypeError):
            ParityBook(5, True)


class Rows(Case):

    def test_check(self):
        for book in [Book(4)] + all_books(4):
            for row in all_images(4):
                self.assertIsNone(book.check(row))
        for size in (1, 3, 40):
            for book in [Book(size)] + all_books(size):
                row = list(range(size))
                for wrong, error in ((row[:-1], UnequalSizes()), (row + [0], UnequalSizes()),
                                     ([size + 5] * (size + 1), UnequalSizes()),
                                     ([-1] * (size - 1), UnequalSizes()),
                                     (row[:-1] + [size], InvalidImage(size - 1)),
                                     ([-1] + row[1:], InvalidImage(0))):
                    calls = [book.check]
                    if type(book) is not Book:
                        calls += [book.is_state, book.can_come_up, book.mended,
                                  lambda bad: book.kind_between(bad, bad)]
                    for call in calls:
                        self.assert_error(error, call, wrong)

    def test_all_small_images(self):
        for size in range(1, 6):
            for book in all_books(size):
                for image in all_images(size):
                    self.assertIs(book.is_state(image), is_state_by_words(book, image))
                    expected = mended_by_words(book, image)
                    self.assertIs(book.can_come_up(image), expected is not None)
                    if expected is None:
                        self.assert_error(Unrepairable([]), book.mended, image)
                    else:
                        self.assert_list(book.mended(image), expected)

    def test_rings_of_six(self):
        book = RingBook(6)
        for image in all_images(6)[::7]:
            expected = mended_by_words(book, image)
            self.assertIs(book.can_come_up(image), expected is not None)
            if expected is not None:
                self.assertEqual(book.mended(image), expected)

    def test_in_words(self):
        self.assertEqual(SlotBook(3).mended([0, 1, 0]), [0, 1, 2])
        self.assertEqual(SlotBook(3).mended([2, 2, 0]), [2, 1, 0])
        self.assertEqual(ParityBook(3).mended([0, 1, 0]), [0, 1, 2])
        self.assertEqual(ParityBook(3, odd=True).mended([0, 1, 0]), [2, 1, 0])
        self.assertIs(ParityBook(3).can_come_up([1, 0, 2]), False)
        self.assertIs(ParityBook(3, odd=True).can_come_up([1, 0, 2]), True)
        self.assertEqual(RingBook(3).mended([1, 2, 1]), [1, 2, 0])
        self.assertEqual(RingBook(4).mended([1, 2, 1, 0]), [1, 2, 3, 0])
        self.assertIs(RingBook(3).can_come_up([0, 2, 0]), False)
        self.assertIs(RingBook(3).can_come_up([0, 1, 2]), False)
        self.assertEqual(PairBook(5).mended([1, 0, 0, 3, 3]), [1, 0, 2, 4, 3])
        self.assert_error(Unrepairable([]), PairBook(3).mended, [1, 2, 0])

    def test_every_torn_image_of_a_safe_update(self):
        """The words of [58]."""
        for book in [book for size in range(1, 6) for book in all_books(size)] + [RingBook(6)]:
            safe = SAFE[type(book)]
            rows = states_of(book)
            for before, after in product(rows, repeat=2):
                if kind_by_words(book, before, after) in safe:
                    for image in torn_images(before, after):
                        self.assertIs(book.can_come_up(image), True)
                        self.assertIn(book.mended(image), (before, after))
            for row in rows:
                self.assertEqual(book.mended(row), row)

    def test_torn_images_in_large_books(self):
        draw = Random(58)
        for size in (7, 12, 40):
            for book in all_books(size):
                for _ in range(12):
                    before = drawn_row(book, draw)
                    self.assertIs(book.is_state(before), True)
                    after = list(before)
                    slots = draw.sample(range(size), {SlotBook: 2}.get(type(book), 3))
                    if isinstance(book, PairBook):
                        x, y = slots[:2]
                        after[before[x]], after[before[y]] = before[x], before[y]
                        after[x], after[y] = y, x
                    else:
                        for x, y in zip(slots, slots[1:] + slots[:1]):
                            after[x] = before[y]
                    if not is_state_by_words(book, after):
                        continue
                    if kind_by_words(book, before, after) not in SAFE[type(book)]:
                        continue
                    for _ in range(12):
                        image = [draw.choice(names) for names in zip(before, after)]
                        self.assertIs(book.can_come_up(image), True)
                        self.assertIn(book.mended(image), (before, after))


class Kinds(Case):

    def test_all_small_updates(self):
        for size in range(1, 6):
            for book in all_books(size):
                rows = states_of(book)
                for before, after in product(rows[:40], rows):
                    self.assertEqual(book.kind_between(before, after),
                                     kind_by_words(book, before, after))
                    self.assertIs(type(book.kind_between(before, after)), tuple)

    def test_rows_that_are_no_states(self):
        for size in (3, 4):
            for book in all_books(size):
                good = states_of(book)[0]
                for row in all_images(size):
                    if not is_state_by_words(book, row):
                        self.assert_error(NotInBook(), book.kind_between, row, good)
                        self.assert_error(NotInBook(), book.kind_between, good, row)
                        # Both rows are checked like images first.
                        self.assert_error(UnequalSizes(), book.kind_between, row, [0] * (size + 1))
                        self.assert_error(InvalidImage(0), book.kind_between, row, [-1] * size)
                        self.assert_error(InvalidImage(1), book.kind_between,
                                          [0, size] + good[2:], row)
                        self.assert_error(InvalidImage(1), book.kind_between,
                                          [0, size] + good[2:], [0] * (size + 1))
                        self.assert_error(UnequalSizes(), book.kind_between,
                                          [0] * (size + 1), [-1] * size)

    def test_all_small_kinds(self):
        for size in range(1, 6):
            for at, book in enumerate(all_books(size)):
                kinds = kinds_of(size, at)
                if isinstance(book, PairBook):
                    self.assertEqual(kinds, set(all_kinds(size)))
                    tried = all_kinds(8)
                else:
                    tried = [kind for many in range(4)
                             for kind in product(range(-1, size + 3), repeat=many)]
                for kind in tried:
                    if kind in kinds:
                        self.assertIs(book.is_safe(kind), kind in SAFE[type(book)])
                        self.assert_clash(book, kind, book.clash(kind))
                    else:
                        self.assert_error(InvalidKind(), book.is_safe, kind)
                        self.assert_error(InvalidKind(), book.clash, kind)

    def test_invalid_kinds_of_a_pair_book(self):
        book = PairBook(20)
        for kind in ((("chain", 1, 0),), (("chain", 2, 0),), (("ring", 5, 0),), (("loop", 4, 0),),
                     (("ring", 4, 0), ("chain", 2, 1)), (("chain", 21, 0),), (("chain", 22, 1),),
                     (("chain", 9, 0), ("ring", 12, 0)), (("chain", 2, 1),) * 11):
            self.assert_error(InvalidKind(), book.is_safe, kind)
            self.assert_error(InvalidKind(), book.clash, kind)
        self.assertIs(book.is_safe((("chain", 2, 1),) * 10), False)
        self.assertIs(book.is_safe((("ring", 20, 0),)), False)

    def test_kinds_at_the_border(self):
        for size in (3, 6, 9, 40):
            for book in (SlotBook(size), ParityBook(size), ParityBook(size, odd=True)):
                for kind in ((size + 1,), (1,), (0,), (-2,), (1, 2), (3, 2), (2,) * (size // 2 + 1),
                             (2, size - 1), (-1, 2), (1, 3)):
                    self.assert_error(InvalidKind(), book.is_safe, kind)
                    self.assert_error(InvalidKind(), book.clash, kind)
            for kind in ((2,), (2, 3), (4,), (2, 2, 2), (3, 4)):
                self.assert_error(InvalidKind(), ParityBook(size).is_safe, kind)
            for kind in ((1,), (2,), (0,), (-3,), (size + 1,), (3, 3), (2, 2), (3, 4)):
                self.assert_error(InvalidKind(), RingBook(size).is_safe, kind)
                self.assert_error(InvalidKind(), RingBook(size).clash, kind)
            self.assertIs(RingBook(size).is_safe((size,)), size == 3)

    def assert_clash(self, book, kind, clash):
        if kind in SAFE[type(book)]:
            self.assertIsNone(clash)
            return
        self.assertIs(type(clash), Clash)
        self.assertIs(clash.holds(), True)
        self.assertEqual(len(clash.image), book.size)
        for row in (*clash.first, *clash.second):
            self.assertIs(is_state_by_words(book, row), True, (book, kind, row))
        self.assertEqual(kind_by_words(book, *clash.first), kind)
        self.assertIn(kind_by_words(book, *clash.second), (kind, ()))

    def test_kinds_of_middle_sizes(self):
        for size in range(6, 13):
            sums = [kind for many in range(size // 2 + 1)
                    for kind in combinations_with_replacement(range(2, size + 1), many)
                    if sum(kind) <= size]
            for book in all_books(size)[1:4]:
                for kind in sums:
                    if isinstance(book, ParityBook) and sum(k % 2 == 0 for k in kind) % 2:
                        self.assert_error(InvalidKind(), book.clash, kind)
                    else:
                        self.assert_clash(book, kind, book.clash(kind))
            book = RingBook(size)
            self.assert_clash(book, (), book.clash(()))
            for many in range(3, size + 1):
                self.assert_clash(book, (many,), book.clash((many,)))
        for size in (6, 8):
            for kind in all_kinds(size):
                self.assert_clash(PairBook(size), kind, PairBook(size).clash(kind))

    def test_large_books(self):
        for kind in ((3,), (39,), (40,), (2, 38), (2,) * 20, (13, 27), (3, 3, 3), (20, 20), (4,),
                     (2, 2), (37,), (5, 6, 7)):
            self.assert_clash(SlotBook(40), kind, SlotBook(40).clash(kind))
        for odd in (False, True):
            book = ParityBook(40, odd=odd)
            for kind in ((5,), (39,), (2, 38), (2,) * 20, (13, 27), (3, 3, 3), (20, 20), (2, 2),
                         (37,), (6, 6, 7), (3, 37), (4, 4, 4, 4)):
                self.assert_clash(book, kind, book.clash(kind))
        for many in range(3, 41):
            self.assert_clash(RingBook(40), (many,), RingBook(40).clash((many,)))
        for kind in ((("chain", 40, 1),), (("ring", 6, 0),), (("chain", 2, 1),) * 20,
                     (("chain", 3, 0), ("ring", 36, 0)), (("chain", 2, -1),)):
            self.assert_clash(PairBook(40), kind, PairBook(40).clash(kind))


class Crowds(Case):

    def test_crowds(self):
        for size in list(range(1, 13)) + [40]:
            self.assertIsNone(PairBook(size).crowd())
            for book in all_books(size)[1:]:
                if size < (6 if isinstance(book, ParityBook) else 4):
                    self.assertIsNone(book.crowd())
                else:
                    self.assert_crowd(book, book.crowd())

    def assert_crowd(self, book, found):
        """The words of [63]."""
        self.assertIs(type(found), tuple)
        image, first, second = found
        self.assertEqual([type(image), type(first), type(second)], [list] * 3)
        self.assertEqual(len(image), book.size)
        for rows in (first, second):
            self.assertEqual([type(row) for row in rows], [list] * 4)
            for row in rows:
                self.assertIs(is_state_by_words(book, row), True)
            s, a, b, ab = rows
            safe = SAFE[type(book)][1]
            self.assertEqual([kind_by_words(book, s, a), kind_by_words(book, s, b)], [safe, safe])
            for x in range(book.size):
                self.assertTrue(a[x] == s[x] or b[x] == s[x])
                self.assertEqual(ab[x], a[x] if a[x] != s[x] else b[x])
                self.assertIn(image[x], (s[x], ab[x]))
        self.assertTrue(all(row not in second for row in first))


class Copies(Case):

    def test_no_call_changes_its_arguments(self):
        for book in all_books(5):
            for image in ([1, 0, 0, 3, 4], [1, 2, 3, 4, 0], [0, 1, 2, 3, 4], [2, 2, 2, 2, 2]):
                given, other = list(image), states_of(book)[1]
                kept = list(other)
                for call in (lambda: book.check(given), lambda: book.is_state(given),
                             lambda: book.can_come_up(given), lambda: book.mended(given),
                             lambda: book.kind_between(given, other),
                             lambda: book.kind_between(other, given)):
                    try:
                        call()
                    except (NotInBook, Unrepairable):
                        pass
                    self.assertEqual((given, other), (image, kept))

    def test_changing_what_was_returned_has_no_effect(self):
        for book in all_books(7):
            row = states_of(book)[3] if book.size < 7 else drawn_row(book, Random(57))
            kept = list(row)
            book.mended(row).append(9)
            self.assertEqual((row, book.mended(row)), (kept, kept))
            crowd = book.crowd()
            if crowd is not None:
                image, first, second = crowd
                expected = (list(image), [list(each) for each in first], [list(each) for each in second])
                image.append(9)
                first[0].append(9)
                second.clear()
                self.assertEqual(book.crowd(), expected)
            kind = (("chain", 5, 0),) if isinstance(book, PairBook) else (5,)
            clash = book.clash(kind)
            image = list(clash.image)
            clash.image.append(9)
            clash.first[0].append(9)
            self.assertEqual(book.clash(kind).image, image)
            self.assertIs(book.clash(kind).holds(), True)

    def test_a_pair_book_has_the_samples(self):
        for kind in all_kinds(6):
            before, after = sample_rows(kind)
            rest = list(range(len(before), 8))
            self.assertEqual(PairBook(8).kind_between(before + rest, after + rest), kind)
        self.assertIs(PairBook(6).is_state(state_of(6, (0, 5), (2, 3))), True)


if __name__ == "__main__":
    unittest.main()
