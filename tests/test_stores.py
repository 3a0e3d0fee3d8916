"""Promises [49] to [56]: peermend.stores."""

import unittest
from itertools import combinations, product
from random import Random

from helpers import Case, all_changes, all_states, rows_of
from peermend import stores
from peermend.errors import Ambiguous, InvalidNumber, InvalidStore, NoStory
from peermend.stores import Store

# A triangle of three rows and, beside it, a story that has nothing in common with it.
R, S, T = [0, 0, 1], [1, 0, 2], [2, 3, 3]
TRIANGLE = ((R, S), (T, S), (R, T))
APART = ([7, 7, 7], [8, 8, 3])
PLAIN = Store(3, *TRIANGLE, APART)


def common_by_words(stories):
    """The rows that are before or after of each of these stories ([51])."""
    rows = [row for story in stories for row in story]
    return [row for row in rows if all(row == before or row == after for before, after in stories)]


def fits_by_words(story, picture, lies):
    before, after = story
    return sum(shown is not None and shown != before[x] and shown != after[x]
               for x, shown in enumerate(picture)) <= lies


def is_parted(chosen, cell):
    """The words of [52], for a pair without a common row or the three rows of a triangle."""
    if len(chosen) == 2:
        (a, b), (c, d) = chosen
        return not {a[cell], b[cell]} & {c[cell], d[cell]}
    return len({row[cell] for row in chosen}) == 3


def conflicts_by_words(stories):
    """All pairs without a common row and all triangles, as lists of parted cells."""
    width = len(stories[0][0]) if stories else 0
    pairs, triangles = [], []
    for chosen in combinations(stories, 2):
        if not common_by_words(chosen):
            pairs.append([x for x in range(width) if is_parted(chosen, x)])
    for chosen in combinations(stories, 3):
        rows = []
        for row in (row for story in chosen for row in story):
            if row not in rows:
                rows.append(row)
        if len(rows) == 3 and all(before != after for before, after in chosen):
            sides = sorted(sorted(story) for story in chosen)
            if sides == sorted(sorted(side) for side in combinations(rows, 2)):
                triangles.append([x for x in range(width) if is_parted(rows, x)])
    return pairs, triangles


def limits_by_words(stories):
    pairs, triangles = conflicts_by_words(stories)
    return (min(map(len, pairs), default=None), min(map(len, triangles), default=None))


def bears_by_words(width, stories, lies, blanks):
    """The words of [53], by going through all pictures."""
    names = sorted({entry for story in stories for row in story for entry in row})
    for picture in product(names + [None, 99], repeat=width):
        if picture.count(None) <= blanks:
            fitting = [story for story in stories if fits_by_words(story, picture, lies)]
            if fitting and not common_by_words(fitting):
                return False
    return True


def drawn_store(draw, width, many, names):
    """A store with few different rows, so that stories meet."""
    rows = [[draw.randrange(names) for _ in range(width)] for _ in range(draw.randint(2, 5))]
    return [(draw.choice(rows), draw.choice(rows)) for _ in range(many)]


def small_stores(seed):
    yield 0, []
    yield 0, [([], [])]
    yield 2, []
    yield 3, list(TRIANGLE)
    yield 3, list(TRIANGLE) + [APART]
    draw = Random(seed)
    for _ in range(60):
        width = draw.randint(1, 3)
        yield width, drawn_store(draw, width, draw.randint(1, 6), draw.randint(2, 3))


def copied(stories, cells):
    """The stories with each cell written as often as told, one copy after the other."""
    return [tuple([row[x] for x, many in enumerate(cells) for _ in range(many)] for row in story)
            for story in stories]


class Interface(Case):

    def test_the_class_and_its_methods(self):
        self.assert_defined(stores, "Store")
        for name in ("__init__", "__len__", "story", "limits", "bears", "fitting", "restore",
                     "confusion", "copies", "doubled", "of_table"):
            self.assertIn(name, vars(Store))
        self.assertIsInstance(vars(Store)["of_table"], classmethod)

    def test_lies_and_blanks_are_passed_by_keyword(self):
        for call in (lambda: PLAIN.bears(1), lambda: PLAIN.fitting([0, 0, 0], 1),
                     lambda: PLAIN.restore([0, 0, 0], 1), lambda: PLAIN.confusion(1),
                     lambda: PLAIN.copies(1), lambda: PLAIN.doubled(1)):
            with self.assertRaises(TypeError):
                call()


class Making(Case):

    def test_width_length_and_stories(self):
        self.assertEqual((PLAIN.width, len(PLAIN)), (3, 4))
        for number, story in enumerate((*TRIANGLE, APART)):
            self.assertEqual(PLAIN.story(number), story)
            self.assertIs(type(PLAIN.story(number)), tuple)
            self.assertEqual([type(row) for row in PLAIN.story(number)], [list, list])
        for number in (-1, 4, 5, 10 ** 20, -10 ** 20):
            self.assert_error(InvalidNumber(number), PLAIN.story, number)

    def test_no_story_and_no_cell(self):
        for width in (0, 1, 5, 12):
            store = Store(width)
            self.assertEqual((store.width, len(store)), (width, 0))
            self.assert_error(InvalidNumber(0), store.story, 0)
            self.assertEqual(store.limits(), (None, None))
            self.assertIs(store.bears(lies=9, blanks=99), True)
            self.assertEqual(store.fitting([None] * width, lies=3), [])
            self.assert_error(NoStory(), store.restore, [None] * width)
            self.assertIsNone(store.confusion(lies=9, blanks=9))
            self.assertEqual(store.copies(lies=9, blanks=9), 1)
            self.assertEqual(store.doubled(lies=9, blanks=9), [])
        empty = Store(0, ([], []), ([], []))
        self.assertEqual((len(empty), empty.limits()), (2, (None, None)))
        self.assertEqual((empty.fitting([]), empty.restore([])), ([0, 1], []))
        self.assertIs(empty.bears(lies=7, blanks=7), True)

    def test_the_first_bad_story(self):
        good = ([0, 1], [2, 2])
        for bad in (([0], [1, 1]), ([0, 0], [1]), ([0, 0, 0], [1, 1]), ([], []), ([0, -1], [0, 0]),
                    ([0, 0], [-1, 0]), ([0, 0], [0, 0, -1]), ([-7, -7], [0, 0])):
            self.assert_error(InvalidStore(0), Store, 2, bad)
            self.assert_error(InvalidStore(1), Store, 2, good, bad)
            self.assert_error(InvalidStore(2), Store, 2, good, good, bad, good, bad)
            self.assert_error(InvalidStore(0), Store, 2, bad, ([0, 0], [0]))
        self.assert_error(InvalidStore(1), Store, 0, ([], []), ([0], []))
        self.assertEqual(len(Store(2, good, good)), 2)

    def test_a_store_keeps_lists_of_its_own(self):
        before, after = [0, 1], [2, 1]
        store = Store(2, (before, after), (before, before))
        before[0] = 9
        after.append(9)
        self.assertEqual(store.story(0), ([0, 1], [2, 1]))
        store.story(0)[0].append(5)
        store.story(0)[1][0] = 5
        self.assertEqual(store.story(0), ([0, 1], [2, 1]))
        store.fitting([0, 1]).append(9)
        self.assertEqual(store.fitting([0, 1]), [0, 1])
        store.restore([0, 1]).append(9)
        self.assertEqual(store.restore([0, 1]), [0, 1])
        found = PLAIN.confusion(blanks=9)
        expected = (list(found[0]), list(found[1]))
        found[0].append(9)
        found[1].append(9)
        self.assertEqual(PLAIN.confusion(blanks=9), expected)
        doubled = Store(2, ([0, 0], [0, 0]), ([1, 1], [1, 1]))
        doubled.doubled(lies=1).append(9)
        self.assertEqual(doubled.doubled(lies=1), [0])

    def test_no_call_changes_its_argument(self):
        picture = [1, None, 2]
        for call in (lambda: PLAIN.fitting(picture), lambda: PLAIN.restore(picture, lies=1),
                     lambda: PLAIN.restore(picture)):
            try:
                call()
            except Ambiguous:
                pass
            self.assertEqual(picture, [1, None, 2])


class Restoring(Case):

    def assert_same(self, *calls):
        found = []
        for call in calls:
            try:
                found.append(call())
            except (NoStory, Ambiguous) as error:
                found.append((type(error), vars(error)))
        self.assertEqual(found[0], found[1])

    def assert_restored(self, stories, picture, lies):
        store = Store(len(picture), *stories)
        numbers = [at for at, story in enumerate(stories) if fits_by_words(story, picture, lies)]
        self.assert_list(store.fitting(picture, lies=lies), numbers)
        common = common_by_words([stories[at] for at in numbers])
        if lies == 0:
            self.assertEqual(store.fitting(picture), numbers)
            self.assert_same(lambda: store.restore(picture), lambda: store.restore(picture, lies=0))
        if not numbers:
            self.assert_error(NoStory(), store.restore, picture, lies=lies)
        elif not common:
            self.assert_error(Ambiguous(numbers), store.restore, picture, lies=lies)
        else:
            self.assert_list(store.restore(picture, lies=lies), min(common))

    def test_in_words(self):
        self.assertEqual(PLAIN.fitting([0, 0, 1]), [0, 2])
        self.assertEqual(PLAIN.restore([0, 0, 1]), R)
        self.assertEqual(PLAIN.restore([0, 0, 2]), R)
        self.assertEqual(PLAIN.restore([8, None, 7]), [7, 7, 7])
        self.assertEqual(PLAIN.fitting([8, None, 7], lies=1), [3])
        self.assert_error(NoStory(), PLAIN.restore, [0, 7, 1])
        self.assertEqual(PLAIN.restore([0, 7, 1], lies=1), R)
        self.assert_error(Ambiguous([0, 1, 2]), PLAIN.restore, [0, 0, None], lies=1)
        self.assert_error(Ambiguous([0, 1, 2, 3]), PLAIN.restore, [None] * 3)
        self.assert_error(NoStory(), PLAIN.restore, [99, 99, 99], lies=2)
        self.assertEqual(PLAIN.fitting([99, 99, 99], lies=3), [0, 1, 2, 3])
        self.assertEqual(PLAIN.fitting([99, 99, 99], lies=500), [0, 1, 2, 3])

    def test_the_least_common_row(self):
        both = Store(2, ([3, 1], [3, 0]), ([3, 0], [3, 1]))
        self.assertEqual(both.restore([3, None]), [3, 0])
        self.assertEqual(both.restore([3, 1]), [3, 0])
        self.assertEqual(Store(1, ([5], [4])).restore([5]), [4])
        self.assertEqual(Store(1, ([5], [5])).restore([None]), [5])

    def test_small_stores_and_all_their_pictures(self):
        for width, stories in small_stores(51):
            names = sorted({entry for story in stories for row in story for entry in row})
            for picture in product(names + [None, 9], repeat=width):
                for lies in range(4):
                    self.assert_restored(stories, list(picture), lies)


class Limits(Case):

    def test_in_words(self):
        self.assertEqual(Store(3, *TRIANGLE).limits(), (None, 2))
        # APART has 3 in the last cell, as T has, and nothing else that is in a triangle's row.
        self.assertEqual(PLAIN.limits(), (2, 2))
        self.assertEqual(Store(1, ([0], [0]), ([1], [1])).limits(), (1, None))
        self.assertEqual(Store(1, ([0], [1]), ([1], [0])).limits(), (None, None))
        self.assertEqual(Store(2, ([0, 0], [1, 1]), ([0, 1], [1, 0])).limits(), (0, None))
        # Doubles of a side, and rows at rest, make no triangle.
        self.assertEqual(Store(1, ([0], [1]), ([1], [0]), ([0], [0])).limits(), (None, None))
        self.assertEqual(Store(1, ([0], [1]), ([1], [2]), ([0], [0])).limits(), (1, None))
        self.assertEqual(Store(1, ([0], [1]), ([1], [2]), ([2], [0])).limits(), (None, 1))
        self.assertEqual(Store(2, ([0, 0], [1, 0]), ([1, 0], [0, 1]), ([0, 1], [0, 0])).limits(),
                         (None, 0))

    def test_all_pairs_and_triples(self):
        for width, stories in small_stores(52):
            self.assertEqual(Store(width, *stories).limits(), limits_by_words(stories))
        draw = Random(520)
        for _ in range(30):
            stories = drawn_store(draw, 6, 12, 3)
            self.assertEqual(Store(6, *stories).limits(), limits_by_words(stories))


class Bearing(Case):

    def assert_confusion(self, width, stories, lies, blanks, found):
        """The words of [54]."""
        self.assertIs(type(found), tuple)
        picture, numbers = found
        self.assertEqual((type(picture), type(numbers)), (list, list))
        self.assertEqual(len(picture), width)
        self.assertTrue(all(shown is None or shown >= 0 for shown in picture))
        self.assertLessEqual(picture.count(None), blanks)
        self.assertEqual(numbers, sorted(set(numbers)))
        self.assertIn(len(numbers), (2, 3))
        chosen = [stories[at] for at in numbers]
        for story in chosen:
            self.assertTrue(fits_by_words(story, picture, lies), (story, picture, lies))
        self.assertEqual(common_by_words(chosen), [])

    def assert_bears(self, width, stories, lies, blanks):
        store = Store(width, *stories)
        pair, triangle = limits_by_words(stories)
        expected = ((pair is None or blanks + 2 * lies < pair)
                    and (triangle is None or blanks + 3 * lies < triangle))
        self.assertIs(store.bears(lies=lies, blanks=blanks), expected)
        found = store.confusion(lies=lies, blanks=blanks)
        if expected:
            self.assertIsNone(found)
        else:
            self.assert_confusion(width, stories, lies, blanks, found)
        return expected

    def test_small_stores_in_the_words_of_pictures(self):
        for width, stories in small_stores(53):
            for lies, blanks in product(range(3), repeat=2):
                expected = bears_by_words(width, stories, lies, blanks)
                self.assertIs(self.assert_bears(width, stories, lies, blanks), expected)
            store = Store(width, *stories)
            self.assertIs(store.bears(), store.bears(lies=0, blanks=0))
            self.assertEqual(store.confusion(), store.confusion(lies=0, blanks=0))

    def test_wider_stores(self):
        draw = Random(54)
        for _ in range(40):
            width = draw.randint(4, 8)
            stories = drawn_store(draw, width, draw.randint(2, 9), 6)
            for lies, blanks in product(range(4), range(5)):
                self.assert_bears(width, stories, lies, blanks)

    def test_lies_and_blanks_much_greater_than_the_width(self):
        for width, stories in small_stores(540):
            for lies, blanks in ((0, 100), (100, 0), (1000, 1000), (1, 50), (50, 1)):
                self.assert_bears(width, stories, lies, blanks)
        self.assertIs(Store(2, ([0, 0], [1, 1])).bears(lies=999, blanks=999), True)
        self.assertIs(PLAIN.bears(lies=999), False)
        self.assertIs(PLAIN.bears(blanks=999), False)

    def test_a_pair_that_is_parted_nowhere_is_never_borne(self):
        stories = [([0, 0], [1, 1]), ([0, 1], [1, 0])]
        self.assertIs(self.assert_bears(2, stories, 0, 0), False)
        store = Store(2, *stories)
        self.assertIsNone(store.copies())
        self.assertIsNone(store.doubled())


class Copies(Case):

    def assert_copies(self, width, stories, lies, blanks, found):
        """The words of [55], with stores whose cells are really copied."""
        if found is None:
            # Copies of cells that part nothing part nothing either.
            self.assertIn(0, limits_by_words(stories))
            return
        self.assertGreaterEqual(found, 1)
        for many in range(max(found - 2, 1), found + 1):
            store = Store(width * many, *copied(stories, [many] * width))
            self.assertIs(store.bears(lies=lies, blanks=blanks), many == found)

    def assert_doubled(self, width, stories, lies, blanks, found):
        def borne(cells):
            counts = [2 if x in cells else 1 for x in range(width)]
            pairs, triangles = limits_by_words(copied(stories, counts))
            return ((pairs is None or blanks + 2 * lies < pairs)
                    and (triangles is None or blanks + 3 * lies < triangles))
        if found is None:
            self.assertIs(borne(range(width)), False)
            return
        expected = next(list(cells) for many in range(width + 1)
                        for cells in combinations(range(width), many) if borne(cells))
        self.assert_list(found, expected)

    def test_small_stores(self):
        for width, stories in small_stores(55):
            for lies, blanks in product(range(3), range(4)):
                store = Store(width, *stories)
                self.assert_copies(width, stories, lies, blanks,
                                   store.copies(lies=lies, blanks=blanks))
                self.assert_doubled(width, stories, lies, blanks,
                                    store.doubled(lies=lies, blanks=blanks))
            self.assertEqual(store.copies(), store.copies(lies=0, blanks=0))
            self.assertEqual(store.doubled(), store.doubled(lies=0, blanks=0))

    def test_wider_stores(self):
        draw = Random(550)
        for _ in range(12):
            width = draw.randint(4, 6)
            stories = drawn_store(draw, width, 5, 6)
            for lies, blanks in product(range(3), range(4)):
                store = Store(width, *stories)
                self.assert_copies(width, stories, lies, blanks,
                                   store.copies(lies=lies, blanks=blanks))
                self.assert_doubled(width, stories, lies, blanks,
                                    store.doubled(lies=lies, blanks=blanks))

    def test_in_words(self):
        store = Store(3, ([0, 0, 0], [0, 0, 0]), ([1, 1, 0], [1, 1, 0]))
        self.assertEqual(store.limits(), (2, None))
        for lies, blanks, copies, doubled in ((0, 0, 1, []), (0, 1, 1, []), (1, 0, 2, [0]),
                                              (0, 2, 2, [0]), (1, 1, 2, [0, 1]), (0, 3, 2, [0, 1]),
                                              (2, 0, 3, None), (0, 4, 3, None), (40, 7, 44, None)):
            self.assertEqual(store.copies(lies=lies, blanks=blanks), copies)
            self.assertEqual(store.doubled(lies=lies, blanks=blanks), doubled)

    def test_the_least_list_of_the_fewest_cells(self):
        # Each of the three pairs is parted at two cells, and cell 1 is in two of them.
        store = Store(4, ([0, 0, 0, 0], [0, 0, 0, 0]), ([1, 1, 0, 0], [1, 1, 0, 0]),
                      ([0, 1, 1, 0], [0, 1, 1, 0]))
        self.assertEqual(store.limits(), (2, None))
        self.assertEqual(store.doubled(lies=1), [0, 1])
        self.assertEqual(store.doubled(blanks=1), [])
        self.assertEqual(store.doubled(lies=1, blanks=1), [0, 1, 2])
        self.assertIsNone(store.doubled(lies=2))


class Tables(Case):

    def stories_by_words(self, size):
        states = all_states(size)
        steps = []
        for before, after in product(states, repeat=2):
            for change in all_changes(size):
                first, second = [
                    all(state[x] == name for x, name in rows_of(change)[side].items())
                    for state, side in ((before, 0), (after, 1))]
                third, fourth = [
                    all(state[x] == name for x, name in rows_of(change)[side].items())
                    for state, side in ((before, 1), (after, 0))]
                same = all(before[x] == after[x] for x in range(size) if x not in change[1])
                if before < after and same and (first and second or third and fourth):
                    steps.append((before, after))
        return [(state, state) for state in states] + sorted(steps)

    def test_all_sizes(self):
        for size in range(5):
            store = Store.of_table(size)
            self.assertIs(type(store), Store)
            expected = self.stories_by_words(size)
            self.assertEqual((store.width, len(store)), (size, len(expected)))
            self.assertEqual([store.story(at) for at in range(len(store))], expected)
            self.assertEqual(store.limits(), limits_by_words(expected))
        self.assertEqual(len(Store.of_table(0)), 1)
        self.assertEqual(Store.of_table(0).story(0), ([], []))
        self.assertEqual(len(Store.of_table(4)), 37)

    def test_the_limits_and_the_copies(self):
        for size in (3, 4):
            store = Store.of_table(size)
            self.assertEqual(store.limits(), (1, 1))
            for lies, blanks in product(range(4), repeat=2):
                self.assertEqual(store.copies(lies=lies, blanks=blanks), blanks + 3 * lies + 1)
        for size in range(3):
            self.assertEqual(Store.of_table(size).limits()[1], None)


class LargeStores(Case):

    def test_eighty_stories_and_twelve_cells(self):
        draw = Random(80)
        stories = []
        for _ in range(80):
            before, after = ([draw.randrange(9) for _ in range(12)] for _ in range(2))
            stories.append((before, after))
        rows = [row for story in stories[:9] for row in story]
        meeting = list(combinations(rows, 2))[:80]
        for chosen in (stories, meeting, stories[:40] + meeting[:40]):
            store = Store(12, *chosen)
            self.assertEqual(len(store), 80)
            self.assertEqual(store.limits(), limits_by_words(chosen))
            for lies, blanks in product(range(5), repeat=2):
                found = store.confusion(lies=lies, blanks=blanks)
                self.assertIs(store.bears(lies=lies, blanks=blanks), found is None)
            self.assertEqual(store.fitting([None] * 12), list(range(80)))
            self.assertEqual(store.fitting(chosen[5][0])[:1], [
                next(at for at, story in enumerate(chosen) if fits_by_words(story, chosen[5][0], 0))])
            self.assertGreater(store.copies(lies=9, blanks=9), 1)


if __name__ == "__main__":
    unittest.main()
