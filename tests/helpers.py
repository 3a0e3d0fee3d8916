"""What several tests share: all small images and states, from the definitions alone."""

import unittest
from functools import lru_cache
from itertools import chain, combinations, permutations, product

from peermend.errors import InvalidImage, NotState, UnequalSizes
from peermend.pieces import is_repairable, pieces

FREE_64 = list(range(64))
PAIRS_64 = [record ^ 1 for record in range(64)]
FAR_PAIRS_64 = [63 - record for record in range(64)]

# (the first image or state, the second, the error of the two as states)
BAD_PAIRS = (
    ([1], [0], InvalidImage(0)),
    ([0, -1], [0, 1], InvalidImage(1)),
    ([1, 1], [0, 1], NotState(0)),
    ([1, 2, 0], [0, 1, 2], NotState(0)),
    ([0, 0], [5, 5], NotState(1)),
    ([1, 1, 3], [9], InvalidImage(2)),
    ([0, 1], [0, 2], InvalidImage(1)),
    ([0, 1], [0, 0], NotState(1)),
    ([1, 0], [0, 0, 3], InvalidImage(2)),
    ([1, 0], [0, 0, 2], NotState(1)),
    ([1, 0], [0, 1, 2], UnequalSizes()),
    ([], [0], UnequalSizes()),
    ([0], [], UnequalSizes()),
    (FREE_64, PAIRS_64[:62], UnequalSizes()),
)

# The table of [6], to the letter: the records in their order, what they show, the condition.
TABLE = {
    "free": ("a", {"a": "a"}, lambda at: True),
    "pair": ("ab", {"a": "b", "b": "a"}, lambda at: at["a"] < at["b"]),
    "claim": ("ab", {"a": "b", "b": "b"}, lambda at: True),
    "hook": ("cab", {"c": "a", "a": "b", "b": "a"}, lambda at: True),
    "relay": ("cab", {"c": "a", "a": "b", "b": "b"}, lambda at: True),
    "clamp": ("dabc", {"d": "a", "a": "b", "b": "a", "c": "b"}, lambda at: at["d"] < at["c"]),
    "trail": ("dcab", {"d": "c", "c": "a", "a": "b", "b": "a"}, lambda at: True),
    "wheel": ("abcd", {"a": "b", "b": "c", "c": "d", "d": "a"},
              lambda at: at["a"] == min(at.values())),
}

# The table of [20], to the letter: the pairs of each choice; the other records become free.
CHOICES = {
    "hook": ("cab", {"back": ["ab"], "forward": ["ca"]}),
    "relay": ("cab", {"near": ["ca"], "far": ["ab"]}),
    "clamp": ("dabc", {"inner": ["da", "bc"], "outer": ["ab", "dc"]}),
    "trail": ("dcab", {"near": ["dc", "ab"], "far": ["ca", "bd"]}),
    "wheel": ("abcd", {"even": ["ab", "cd"], "odd": ["bc", "da"]}),
}
NAMES = tuple(CHOICES)
STANDARD = ("back", "near", "inner", "near", "even")


def named(word, records, image):
    """Write a form into the image, its letters standing for the records."""
    letters, shows, _ = TABLE[word]
    at = dict(zip(letters, records))
    for letter in letters:
        image[at[letter]] = at[shows[letter]]


def listed(word, records):
    """The order in which the table lists what `named` has written."""
    if word == "pair":
        return tuple(sorted(records))
    if word == "clamp" and records[0] > records[3]:
        return tuple(reversed(records))
    if word == "wheel":
        first = records.index(min(records))
        return tuple(records[first:]) + tuple(records[:first])
    return tuple(records)


def image_of(size, *written):
    image = list(range(size))
    for word, records in written:
        named(word, records, image)
    return image


def mixed_pieces():
    """Pieces with all words, whose records are all of a table of 64, far from each other."""
    words = ["wheel", "trail", "clamp", "relay", "hook", "claim", "pair", "free"] * 2
    words += ["trail", "wheel", "clamp", "relay", "hook"]
    mixed = [(place * 27 + 5) % 64 for place in range(64)]
    written, place = [], 0
    for word in words:
        size = len(TABLE[word][0])
        written.append((word, tuple(mixed[place:place + size])))
        place += size
    assert place == 64
    return written


def drawn_state(draw, size):
    """A state of a size; the draw is a random.Random, made from a fixed number."""
    records = list(range(size))
    draw.shuffle(records)
    pairs = draw.randint(0, size // 2)
    return state_of(size, *zip(records[:2 * pairs:2], records[1:2 * pairs:2]))


def drawn_image(draw, size):
    """A repairable image of a size, with all sorts of pieces."""
    records = list(range(size))
    draw.shuffle(records)
    written = []
    while records:
        word = draw.choice([word for word in TABLE if len(TABLE[word][0]) <= len(records)])
        many = len(TABLE[word][0])
        written.append((word, records[:many]))
        records = records[many:]
    return image_of(size, *written)


def subsets(records):
    return chain.from_iterable(combinations(records, many) for many in range(len(records) + 1))


def entries_of(length):
    """The entries that a kind can have for a part of so many records, by the words of [15]."""
    if length % 2:
        return [("chain", length, 0)]
    rings = [("ring", length, 0)] if length >= 4 else []
    return [("chain", length, -1), ("chain", length, 1)] + rings


@lru_cache(maxsize=None)
def all_kinds(most):
    """All kinds whose lengths add up to at most so many, ascending."""
    found = {()}
    for length in range(2, most + 1):
        for rest in all_kinds(most - length):
            found.update(tuple(sorted(rest + (entry,))) for entry in entries_of(length))
    return sorted(found)


def all_images(size):
    return [list(names) for names in product(range(size), repeat=size)]


@lru_cache(maxsize=None)
def _states(size):
    return [image for image in all_images(size)
            if all(image[name] == record for record, name in enumerate(image))]


@lru_cache(maxsize=None)
def _repairable(size):
    return [image for image in all_images(size) if is_repairable(image)]


def all_states(size):
    """All states of a size, ascending."""
    return [list(state) for state in _states(size)]


def all_repairable(size):
    """All repairable images of a size, ascending as lists."""
    return [list(image) for image in _repairable(size)]


def state_of(size, *pairs):
    """The state with these pairs; all other records are free."""
    state = list(range(size))
    for first, second in pairs:
        state[first] = second
        state[second] = first
    return state


def words_of(number):
    """The five choices of the rules with a number, as [20] numbers them."""
    return tuple(list(words)[number // 2 ** at % 2]
                 for at, (_, words) in enumerate(CHOICES.values()))


def settle(state, word, records, choice):
    """Write into the state what a choice of [20] makes of a piece; a claim becomes a pair."""
    letters, ways = CHOICES.get(word, ("ab", {choice: ["ab"]}))
    at = dict(zip(letters, records))
    for record in records:
        state[record] = record
    for first, second in ways[choice]:
        state[at[first]] = at[second]
        state[at[second]] = at[first]


def repair_by_table(image, words=STANDARD):
    """The repair by the five choices, from the table of [20] alone."""
    state = list(image)
    for word, records in pieces(image):
        if word not in ("free", "pair"):
            settle(state, word, records, dict(zip(NAMES, words)).get(word))
    return state


def all_changes(size):
    """All valid changes of a table, by the words of [17]."""
    found = [("tie", (a, b)) for a, b in permutations(range(size), 2) if a < b]
    found += [("move", (a, b, c)) for a, b, c in permutations(range(size), 3) if b < c]
    found += [("cross", (a, b, c, d)) for a, b, c, d in permutations(range(size), 4)
              if a < b and a < c and a < d and b < d]
    return sorted(found)


def rows_of(change):
    """What the two sides show, by the words of [17], as two dicts."""
    word, records = change
    if word == "tie":
        a, b = records
        pairs, free = ([], [(a, b)]), ([a, b], [])
    elif word == "move":
        a, b, c = records
        pairs, free = ([(a, b)], [(a, c)]), ([c], [b])
    else:
        a, b, c, d = records
        pairs, free = ([(a, b), (c, d)], [(b, c), (d, a)]), ([], [])
    rows = []
    for side in (0, 1):
        row = {x: x for x in free[side]}
        for first, second in pairs[side]:
            row[first] = second
            row[second] = first
        rows.append(row)
    return rows


def side_by_definition(image, change):
    for side, row in enumerate(rows_of(change)):
        if all(image[record] == name for record, name in row.items()):
            return side
    return None


@lru_cache(maxsize=None)
def _changes(size):
    return [(change, *rows_of(change)) for change in all_changes(size)]


def readings_by_words(image):
    """All readings of an image, by the words of [31], each as a list of changes."""
    torn = []
    for change, first, second in _changes(len(image)):
        if all(image[x] in (first[x], second[x]) for x in first):
            if side_by_definition(image, change) is None:
                torn.append(change)
    found = []
    chosen = [([], 0)]
    while chosen:
        reading, start = chosen.pop()
        inside = {x for _, records in reading for x in records}
        outside = [x for x in range(len(image)) if x not in inside]
        if all(image[x] not in inside and image[image[x]] == x for x in outside):
            found.append(reading)
        for at in range(start, len(torn)):
            if inside.isdisjoint(torn[at][1]):
                chosen.append((reading + [torn[at]], at + 1))
    return found


def is_right_by_words(image, state, readings):
    """Whether the state is right for the image with these readings, by the words of [25]."""
    for reading in readings:
        if any(side_by_definition(state, change) is None for change in reading):
            return False
        inside = {x for _, records in reading for x in records}
        if any(state[x] != image[x] for x in range(len(image)) if x not in inside):
            return False
    return True


class Case(unittest.TestCase):

    def assert_error(self, expected, function, *given, **named):
        """The call raises exactly this error, with the same attributes."""
        with self.assertRaises(type(expected)) as caught:
            function(*given, **named)
        self.assertIs(type(caught.exception), type(expected))
        self.assertEqual(vars(caught.exception), vars(expected))

    def assert_list(self, found, expected):
        self.assertIs(type(found), list)
        self.assertEqual(found, expected)

    def assert_defined(self, module, *names):
        """The module defines what the interface lists for it, and does not import it."""
        for name in names:
            with self.subTest(name):
                self.assertEqual(getattr(module, name).__module__, module.__name__)
                self.assertEqual(getattr(module, name).__name__, name)
