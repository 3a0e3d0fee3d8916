"""Promises [2], [6] and [7]: peermend.pieces."""

import copy
import unittest
from itertools import permutations, product
from math import gcd

from helpers import TABLE, image_of, listed, mixed_pieces
from peermend import pieces as module
from peermend.errors import InvalidImage, Unrepairable
from peermend.images import groups
from peermend.pieces import WORDS, census, is_repairable, pieces, torn_pieces

TORN = ("claim", "hook", "relay", "clamp", "trail", "wheel")
FUNCTIONS = (pieces, torn_pieces, census, is_repairable)

# What the records of one group show that has none of the forms, as places in the group.
SHAPES_THAT_ARE_NO_PIECES = (
    [1, 2, 0],           # a circle of three
    [1, 2, 3, 4, 0],     # a circle of five
    [1, 2, 3, 4, 5, 0],  # a circle of six
    [0, 0, 0],           # two tails at a record that shows itself
    [1, 0, 0, 0],        # two tails at one record of two that name each other
    [0, 0, 0, 0],        # three tails
    [1, 2, 3, 3],        # a tail of three to a record that shows itself
    [1, 2, 3, 4, 3],     # a tail of three to two that name each other
    [1, 2, 3, 4, 4],     # a tail of four
    [1, 2, 2, 2],        # a relay with another tail at its end
    [2, 2, 3, 3],        # a relay with another tail at its middle record
    [1, 2, 0, 0],        # a circle of three with a tail
    [1, 2, 3, 0, 0],     # a wheel with a tail
    [1, 2, 1, 2, 0],     # a clamp with a longer tail
    [1, 2, 1, 2, 1],     # a clamp with another tail
    [1, 0, 0, 1, 0, 1],  # two that name each other with two tails each
)


def pieces_by_table(image):
    """All pieces and all other groups of an image, from the table alone."""
    found, others = [], []
    for group in groups(image):
        fitting = []
        for word, (letters, shows, condition) in TABLE.items():
            if len(letters) != len(group):
                continue
            for records in permutations(group):
                at = dict(zip(letters, records))
                if condition(at) and all(image[at[x]] == at[shows[x]] for x in letters):
                    fitting.append((word, records))
        assert len(fitting) <= 1
        if fitting:
            found.append(fitting[0])
        else:
            others.append(group)
    return found, others


class Case(unittest.TestCase):

    def assert_repairable(self, image, expected):
        self.assertEqual(pieces(image), expected)
        self.assertIs(is_repairable(image), True)
        torn = [piece for piece in expected if piece[0] in TORN]
        self.assertEqual(torn_pieces(image), torn)
        words = [word for word, _ in expected]
        self.assertEqual(list(census(image).items()), [(word, words.count(word)) for word in WORDS])

    def assert_unrepairable(self, image, group):
        self.assertIs(is_repairable(image), False)
        for function in (pieces, torn_pieces, census):
            with self.assertRaises(Unrepairable) as caught:
                function(image)
            self.assertEqual(caught.exception.group, group)
            self.assertIs(type(caught.exception.group), list)


class Interface(Case):

    def test_each_function_is_defined_in_its_file(self):
        for function in FUNCTIONS:
            with self.subTest(function.__name__):
                self.assertEqual(function.__module__, "peermend.pieces")
                self.assertIs(getattr(module, function.__name__), function)

    def test_the_words_stand_in_the_order_of_the_table(self):
        self.assertEqual(WORDS, ("free", "pair", "claim", "hook", "relay", "clamp", "trail",
                                 "wheel"))
        self.assertIs(type(WORDS), tuple)

    def test_the_example(self):
        self.assertEqual(pieces([1, 0, 0, 3, 3]), [("hook", (2, 0, 1)), ("claim", (4, 3))])

    def test_kinds_of_values(self):
        found = pieces([1, 0, 0, 3, 3])
        self.assertIs(type(found), list)
        for word, records in found:
            self.assertEqual((type(word), type(records)), (str, tuple))
        self.assertEqual({type(piece) for piece in found}, {tuple})
        self.assertIs(type(torn_pieces([0])), list)
        self.assertIs(type(census([0])), dict)


class Forms(Case):

    def test_the_empty_image(self):
        self.assert_repairable([], [])

    def test_each_form_as_the_table_names_it(self):
        for image, piece in (
            ([0], ("free", (0,))),
            ([1, 0], ("pair", (0, 1))),
            ([1, 1], ("claim", (0, 1))),
            ([0, 0], ("claim", (1, 0))),
            ([1, 0, 0], ("hook", (2, 0, 1))),
            ([1, 0, 1], ("hook", (2, 1, 0))),
            ([1, 2, 1], ("hook", (0, 1, 2))),
            ([1, 2, 2], ("relay", (0, 1, 2))),
            ([0, 0, 1], ("relay", (2, 1, 0))),
            ([1, 0, 0, 1], ("clamp", (2, 0, 1, 3))),
            ([1, 0, 1, 0], ("clamp", (2, 1, 0, 3))),
            ([1, 2, 1, 2], ("clamp", (0, 1, 2, 3))),
            ([1, 2, 3, 2], ("trail", (0, 1, 2, 3))),
            ([1, 0, 0, 2], ("trail", (3, 2, 0, 1))),
            ([1, 2, 3, 0], ("wheel", (0, 1, 2, 3))),
            ([2, 3, 1, 0], ("wheel", (0, 2, 1, 3))),
            ([3, 0, 1, 2], ("wheel", (0, 3, 2, 1))),
        ):
            with self.subTest(image=image):
                self.assert_repairable(image, [piece])

    def test_each_form_alone_in_every_order(self):
        for word in WORDS:
            size = len(TABLE[word][0])
            for records in permutations(range(size)):
                image = image_of(size, (word, records))
                self.assert_repairable(image, [(word, listed(word, records))])

    def test_each_form_beside_free_records_in_every_order(self):
        for word in WORDS:
            for records in permutations(range(6), len(TABLE[word][0])):
                image = image_of(6, (word, records))
                expected = [("free", (record,)) for record in range(6) if record not in records]
                expected.append((word, listed(word, records)))
                expected.sort(key=lambda piece: min(piece[1]))
                self.assert_repairable(image, expected)

    def test_each_two_forms_among_each_other(self):
        for first, second in product(WORDS, repeat=2):
            small, large = len(TABLE[first][0]), len(TABLE[second][0])
            size = small + large
            for step, shift in product((1, 3, 5, 7), range(size)):
                if gcd(step, size) == 1:
                    mixed = [(place * step + shift) % size for place in range(size)]
                    written = [(first, mixed[:small]), (second, mixed[small:])]
                    expected = [(word, listed(word, records)) for word, records in written]
                    expected.sort(key=lambda piece: min(piece[1]))
                    self.assert_repairable(image_of(size, *written), expected)

    def test_a_whole_table(self):
        written = mixed_pieces()
        expected = [(word, listed(word, records)) for word, records in written]
        expected.sort(key=lambda piece: min(piece[1]))
        self.assert_repairable(image_of(64, *written), expected)

    def test_all_small_images(self):
        for size in range(6):
            for names in product(range(size), repeat=size):
                image = list(names)
                found, others = pieces_by_table(image)
                if others:
                    self.assert_unrepairable(image, others[0])
                else:
                    self.assert_repairable(image, found)

    def test_a_state_has_whole_pieces_only(self):
        self.assertEqual(torn_pieces([3, 1, 4, 0, 2]), [])
        self.assertEqual(pieces([3, 1, 4, 0, 2]),
                         [("pair", (0, 3)), ("free", (1,)), ("pair", (2, 4))])

    def test_the_end_of_a_claim_or_a_relay_is_not_free(self):
        for image in ([1, 1], [1, 2, 2]):
            self.assertEqual(census(image)["free"], 0)


class Census(Case):

    def test_the_words_are_in_order_even_if_the_image_has_none(self):
        for image in ([], [0], [1, 2, 3, 0], [1, 1], [1, 0, 0, 3, 3]):
            self.assertEqual(list(census(image)), list(WORDS))

    def test_numbers(self):
        self.assertEqual(census([]), {word: 0 for word in WORDS})
        self.assertEqual(census([1, 0, 0, 3, 3]),
                         {"free": 0, "pair": 0, "claim": 1, "hook": 1, "relay": 0, "clamp": 0,
                          "trail": 0, "wheel": 0})
        self.assertEqual(census(list(range(64)))["free"], 64)
        self.assertEqual(census([63 - record for record in range(64)])["pair"], 32)
        self.assertEqual(census([record | 1 for record in range(64)])["claim"], 32)
        wheels = [record - 3 if record % 4 == 3 else record + 1 for record in range(64)]
        self.assertEqual(census(wheels)["wheel"], 16)


class Unrepaired(Case):

    def test_groups_without_a_form(self):
        for shape in SHAPES_THAT_ARE_NO_PIECES:
            with self.subTest(shape=shape):
                self.assert_unrepairable(shape, list(range(len(shape))))

    def test_groups_without_a_form_in_every_order(self):
        for shape in SHAPES_THAT_ARE_NO_PIECES:
            size = len(shape)
            for records in permutations(range(size)):
                image = [0] * size
                for place, name in enumerate(shape):
                    image[records[place]] = records[name]
                self.assertIs(is_repairable(image), False)
                self.assert_unrepairable(image, list(range(size)))

    def test_a_group_without_a_form_beside_pieces(self):
        for shape in SHAPES_THAT_ARE_NO_PIECES:
            with self.subTest(shape=shape):
                size = len(shape)
                image = [1, 0, 2, 4, 4] + [name + 5 for name in shape] + [size + 5, size + 5]
                self.assert_unrepairable(image, list(range(5, 5 + size)))

    def test_the_first_group_counts_by_its_least_record(self):
        # Two circles of three: 0-4-5 and 1-2-3; then the same with a pair in front.
        self.assert_unrepairable([4, 2, 3, 1, 5, 0], [0, 4, 5])
        self.assert_unrepairable([7, 5, 3, 4, 2, 6, 1, 0], [1, 5, 6])
        # The first group is a piece, the second one not, the third one neither.
        self.assert_unrepairable([3, 4, 5, 0, 6, 7, 1, 2], [1, 4, 6])

    def test_the_group_is_ascending_wherever_the_circle_begins(self):
        self.assert_unrepairable([0, 5, 1, 3, 4, 2], [1, 2, 5])

    def test_long_groups(self):
        everything = list(range(64))
        self.assert_unrepairable([(record + 1) % 64 for record in everything], everything)
        self.assert_unrepairable([max(record - 1, 0) for record in everything], everything)
        self.assert_unrepairable([63] * 64, everything)

    def test_bad_entries_come_first(self):
        for image, record in (
            ([1], 0),
            ([1, 2, 0, 4], 3),
            ([1, 2, 0, -1, 9], 3),
            ([0, 0, 0, 3, -10 ** 20], 4),
            ([0, 2, 1, 10 ** 20], 3),
            ([1, 2, 0] + list(range(3, 63)) + [64], 63),
        ):
            for function in FUNCTIONS:
                with self.subTest(function.__name__, image=image):
                    with self.assertRaises(InvalidImage) as caught:
                        function(image)
                    self.assertEqual(caught.exception.record, record)


class Copies(Case):

    def test_no_call_changes_its_argument(self):
        for image in ([], [0], [1, 0, 0, 3, 3], [2, 3, 1, 0], [1, 2, 0], [0, 0, 0, 3], [7]):
            given = copy.deepcopy(image)
            for function in FUNCTIONS:
                try:
                    function(given)
                except (InvalidImage, Unrepairable):
                    pass
            self.assertEqual(given, image)

    def test_changing_what_was_returned_has_no_effect(self):
        image = [1, 0, 0, 3, 3, 5]
        for function in (pieces, torn_pieces):
            found = function(image)
            expected = list(found)
            found.append(("free", (9,)))
            found[0] = None
            self.assertEqual(function(image), expected)
        counts = census(image)
        expected = dict(counts)
        counts["hook"] = 7
        counts["other"] = 1
        del counts["free"]
        self.assertEqual(census(image), expected)
        self.assertEqual(list(census(image)), list(WORDS))


if __name__ == "__main__":
    unittest.main()
