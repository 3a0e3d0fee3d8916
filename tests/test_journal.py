"""Promises [2], [72] and [73]: peermend.journal."""

import unittest
from itertools import combinations
from random import Random

from helpers import (FREE_64, PAIRS_64, TABLE, Case, all_changes, all_images, all_repairable,
                     drawn_image, image_of, mixed_pieces, rows_of, side_by_definition, subsets)
from peermend import journal
from peermend.errors import InvalidChange, InvalidImage, Unrepairable
from peermend.journal import hidden_writers, keep_lines, line_fits, reading_with
from peermend.pieces import is_repairable, pieces
from peermend.readings import is_reading, reading_at

BAD_CHANGES = (("tie", (1, 0)), ("tie", (0, 0)), ("tie", (0, 1, 2)), ("knot", (0, 1)), ("tie", ()),
               ("tie", (0, 64)), ("tie", (-1, 0)), ("move", (0, 2, 1)), ("move", (0, 1)),
               ("cross", (0, 1)), ("cross", (1, 0, 2, 3)), ("", (0, 1)))
# The claim (0, 1), the hook (4, 2, 3), the pair 5-6, the free records 7 and 8.
IMAGE = [1, 1, 3, 2, 2, 6, 5, 7, 8]
TIE, MOVE = ("tie", (0, 1)), ("move", (2, 3, 4))


def fits_by_words(image, change):
    """The words of [72]."""
    first, second = rows_of(change)
    return (all(image[x] in (first[x], second[x]) for x in first)
            and all(image[x] not in first for x in range(len(image)) if x not in first))


def overlap(change, other):
    return bool(set(change[1]) & set(other[1]))


def kept_by_words(image, lines):
    """The words of [73], by going through all sets of lines."""
    fitting = [at for at, line in enumerate(lines) if fits_by_words(image, line)]
    sets = [list(chosen) for chosen in subsets(fitting)
            if not any(overlap(lines[x], lines[y]) for x, y in combinations(chosen, 2))]
    most = max(map(len, sets))
    return min(chosen for chosen in sets if len(chosen) == most)


def torn_of(image):
    return [piece for piece in pieces(image) if piece[0] not in ("free", "pair")]


def hidden_by_words(image, lines):
    inside = {x for at in kept_by_words(image, lines) for x in lines[at][1]}
    return sum(inside.isdisjoint(records) for _, records in torn_of(image))


def reading_by_words(image, lines):
    kept = [lines[at] for at in kept_by_words(image, lines)]
    told = [line for line in kept if side_by_definition(image, line) is None]
    inside = {x for line in kept for x in line[1]}
    found = []
    # The first reading has the tie for each claim, in the order of the torn pieces.
    for (_, records), change in zip(torn_of(image), reading_at(image, 0)):
        if inside.isdisjoint(records):
            found.append(change)
        else:
            found += [line for line in told if set(records) & set(line[1])]
    assert len([line for line in told if line in found]) == len(told)
    return found


def drawn_lines(draw, image, many):
    """Lines of which some fit, some overlap and some are wrong."""
    size = len(image)
    likely = [change for number in range(3) for change in reading_at(image, 0)[number::3]]
    free = [x for x in range(size) if image[x] == x]
    lines = []
    while len(lines) < many:
        chance = draw.random()
        if likely and chance < 0.4:
            lines.append(draw.choice(likely))
        elif len(free) >= 2 and chance < 0.6:
            lines.append(("tie", tuple(sorted(draw.sample(free, 2)))))
        else:
            a, b, c = draw.sample(range(size), 3)
            if image[a] not in (a, c) and chance < 0.8:
                b = image[a]
            lines.append(draw.choice((("tie", (min(a, b), max(a, b))),
                                      ("move", (a, min(b, c), max(b, c))))))
    return lines


class Interface(Case):

    def test_each_function_is_defined_in_its_file(self):
        self.assert_defined(journal, "line_fits", "keep_lines", "hidden_writers", "reading_with")


class Fitting(Case):

    def assert_fits(self, expected, image, change):
        self.assertIs(fits_by_words(image, change), expected)
        self.assertIs(line_fits(image, change), expected)

    def test_each_word_at_its_sides_and_between(self):
        for change in (("tie", (0, 1)), ("tie", (1, 3)), ("move", (0, 1, 2)), ("move", (3, 0, 2)),
                       ("cross", (0, 1, 2, 3)), ("cross", (0, 2, 1, 4))):
            first, second = rows_of(change)
            for chosen in subsets(sorted(first)):
                image = list(range(6))
                for x in first:
                    image[x] = second[x] if x in chosen else first[x]
                self.assert_fits(True, image, change)
                # A record elsewhere that shows one of those of the change.
                for x in range(6):
                    if x not in first:
                        for name in first:
                            self.assert_fits(False, image[:x] + [name] + image[x + 1:], change)
                        for name in range(6):
                            if name not in first:
                                self.assert_fits(True, image[:x] + [name] + image[x + 1:], change)
                # A record of the change that shows another name.
                for x in first:
                    for name in range(6):
                        if name not in (first[x], second[x]):
                            self.assert_fits(False, image[:x] + [name] + image[x + 1:], change)

    def test_all_small_images(self):
        # The image needs not be repairable.
        for size in range(5):
            for image in all_images(size):
                for change in all_changes(size):
                    self.assert_fits(fits_by_words(image, change), image, change)

    def test_large_images(self):
        self.assert_fits(True, FREE_64, ("tie", (5, 63)))
        self.assert_fits(False, FREE_64, ("move", (5, 6, 63)))
        self.assert_fits(True, PAIRS_64, ("cross", (0, 1, 62, 63)))
        self.assert_fits(True, PAIRS_64, ("tie", (62, 63)))
        self.assert_fits(False, PAIRS_64, ("tie", (61, 63)))


class Lines(Case):

    def assert_lines(self, image, lines):
        self.assert_list(keep_lines(image, lines), kept_by_words(image, lines))
        self.assertEqual(hidden_writers(image, lines), hidden_by_words(image, lines))
        self.assert_list(reading_with(image, lines), reading_by_words(image, lines))
        # Kept lines do not overlap and fit, so what is made of them is a reading.
        self.assertIs(is_reading(image, reading_with(image, lines)), True)

    def test_no_line(self):
        for size in range(5):
            for image in all_repairable(size):
                self.assertEqual(keep_lines(image, []), [])
                self.assertEqual(hidden_writers(image, []), len(torn_of(image)))
                self.assertEqual(reading_with(image, []), reading_at(image, 0))
        image = image_of(64, *mixed_pieces())
        self.assertEqual(hidden_writers(image, []), len(torn_of(image)))
        self.assertEqual(reading_with(image, []), reading_at(image, 0))

    def test_in_words(self):
        for lines, kept, hidden, reading in (
                ([], [], 2, [TIE, MOVE]),
                ([MOVE], [0], 1, [TIE, MOVE]),
                ([TIE, MOVE], [0, 1], 0, [TIE, MOVE]),
                # A line that names a free record in place of the tie.
                ([MOVE, ("move", (0, 1, 8))], [0, 1], 0, [("move", (0, 1, 8)), MOVE]),
                ([("move", (0, 1, 7)), TIE], [0], 1, [("move", (0, 1, 7)), MOVE]),
                # Lines that overlap: the least list among the largest.
                ([("move", (0, 1, 7)), TIE, ("tie", (7, 8))], [1, 2], 1, [TIE, MOVE]),
                ([TIE, TIE, TIE], [0], 1, [TIE, MOVE]),
                ([("tie", (7, 8)), ("move", (0, 1, 7)), ("move", (0, 1, 8))], [0], 2, [TIE, MOVE]),
                # Lines at one of whose sides the image is.
                ([("tie", (5, 6)), ("tie", (7, 8))], [0, 1], 2, [TIE, MOVE]),
                ([("move", (5, 6, 7)), ("tie", (5, 6))], [0], 2, [TIE, MOVE]),
                # Wrong lines.
                ([("tie", (0, 2)), ("move", (3, 2, 4)), ("cross", (0, 1, 2, 3)), ("tie", (1, 7))],
                 [], 2, [TIE, MOVE]),
                ([("move", (1, 0, 7)), ("move", (4, 2, 3))], [], 2, [TIE, MOVE])):
            with self.subTest(lines=lines):
                self.assertEqual(keep_lines(IMAGE, lines), kept)
                self.assertEqual(hidden_writers(IMAGE, lines), hidden)
                self.assertEqual(reading_with(IMAGE, lines), reading)
                self.assert_lines(IMAGE, lines)

    def test_all_small_journals(self):
        for size in range(4):
            changes = all_changes(size)
            for image in all_repairable(size):
                for many in range(3):
                    for lines in combinations(changes, many):
                        self.assert_lines(image, list(lines))
                        self.assert_lines(image, list(lines[::-1]))
                self.assert_lines(image, changes[:12])

    def test_each_torn_piece_with_each_line(self):
        for word in TABLE:
            many = len(TABLE[word][0])
            image = image_of(6, (word, [2, 0, 4, 5, 1, 3][:many]))
            for change in all_changes(6):
                self.assert_lines(image, [change])

    def test_drawn_journals(self):
        draw = Random(73)
        for many in (3, 6, 9, 12):
            for _ in range(40):
                image = drawn_image(draw, draw.choice((6, 9, 14, 20)))
                self.assert_lines(image, drawn_lines(draw, image, many))
        for _ in range(20):
            image = drawn_image(draw, 64)
            self.assert_lines(image, drawn_lines(draw, image, 12))

    def test_twelve_lines_that_overlap(self):
        # All ties of some free records: no two of them apart but those of different records.
        lines = [("tie", (x, y)) for x, y in combinations(range(5), 2)] + [("tie", (5, 6))]
        self.assertEqual(keep_lines(FREE_64, lines), [0, 7, 10])
        self.assert_lines(FREE_64, lines)
        lines = [("tie", (x, y)) for x, y in combinations(range(8), 2)][:12]
        self.assert_lines(list(range(8)), lines)
        self.assert_lines(PAIRS_64, [("cross", (2 * x, 2 * x + 1, 2 * x + 2, 2 * x + 3))
                                     for x in range(12)])
        self.assert_lines(PAIRS_64, [("tie", (2 * x, 2 * x + 1)) for x in range(12)])

    def test_somewhat_more_lines(self):
        lines = [("tie", (x, x + 1)) for x in range(20)]
        self.assertEqual(keep_lines(FREE_64, lines), list(range(0, 19, 2)))
        self.assertEqual(keep_lines(PAIRS_64, lines), list(range(0, 20, 2)))


class WrongArguments(Case):

    def test_images_come_first(self):
        for image, error in (([1], InvalidImage(0)), ([0, 0, 0, 4], InvalidImage(3)),
                             ([0, -1, 2], InvalidImage(1))):
            for change in BAD_CHANGES + (("tie", (0, 1)),):
                self.assert_error(error, line_fits, image, change)
                for function in (keep_lines, hidden_writers, reading_with):
                    self.assert_error(error, function, image, [change])
                    self.assert_error(error, function, image, [])
        for image, group in (([1, 2, 0], [0, 1, 2]), ([0, 2, 3, 1], [1, 2, 3]),
                             ([0, 0, 0, 3, 3, 3], [0, 1, 2])):
            for function in (keep_lines, hidden_writers, reading_with):
                for lines in ([], [("tie", (0, 1))], [("tie", (0, 99))], [("knot", (0, 1))]):
                    self.assert_error(Unrepairable(group), function, image, lines)
            self.assertFalse(is_repairable(image))
            self.assertIs(line_fits(image, ("tie", (0, 1))), False)

    def test_changes_that_are_not_valid(self):
        for change in BAD_CHANGES:
            for image in (IMAGE, FREE_64, [1, 2, 0]):
                self.assert_error(InvalidChange(), line_fits, image, change)
            for image in (IMAGE, FREE_64):
                for function in (keep_lines, hidden_writers, reading_with):
                    for lines in ([change], [TIE, change], [change, TIE],
                                  [("move", (0, 1, 8)), TIE, change]):
                        self.assert_error(InvalidChange(), function, image, lines)
        self.assert_error(InvalidChange(), line_fits, [], ("tie", (0, 1)))


class Copies(Case):

    def test_no_call_changes_its_arguments(self):
        image, lines = list(IMAGE), [MOVE, ("move", (0, 1, 8)), TIE]
        for call in (lambda: line_fits(image, TIE), lambda: keep_lines(image, lines),
                     lambda: hidden_writers(image, lines), lambda: reading_with(image, lines)):
            call()
            self.assertEqual((image, lines), (IMAGE, [MOVE, ("move", (0, 1, 8)), TIE]))

    def test_changing_what_was_returned_has_no_effect(self):
        lines = [MOVE, TIE]
        keep_lines(IMAGE, lines).append(9)
        reading_with(IMAGE, lines).clear()
        self.assertEqual(keep_lines(IMAGE, lines), [0, 1])
        self.assertEqual(reading_with(IMAGE, lines), [TIE, MOVE])
        self.assertEqual(lines, [MOVE, TIE])


if __name__ == "__main__":
    unittest.main()
