"""What several tests share: all small images and states, from the definitions alone."""

import unittest
from functools import lru_cache
from itertools import product

from peermend.pieces import is_repairable

FREE_64 = list(range(64))
PAIRS_64 = [record ^ 1 for record in range(64)]
FAR_PAIRS_64 = [63 - record for record in range(64)]


def all_images(size):
    return [list(names) for names in product(range(size), repeat=size)]


@lru_cache(maxsize=None)
def _states(size):
    return [image for image in all_images(size)
            if all(image[name] == record for record, name in enumerate(image))]


@lru_cache(maxsize=None)
def _repairable(size):
    return [image for image in all_images(size) if is_repairable(image)]


def all_states(size):
    """All states of a size, ascending."""
    return [list(state) for state in _states(size)]


def all_repairable(size):
    """All repairable images of a size, ascending as lists."""
    return [list(image) for image in _repairable(size)]


def state_of(size, *pairs):
    """The state with these pairs; all other records are free."""
    state = list(range(size))
    for first, second in pairs:
        state[first] = second
        state[second] = first
    return state


class Case(unittest.TestCase):

    def assert_error(self, expected, function, *given, **named):
        """The call raises exactly this error, with the same attributes."""
        with self.assertRaises(type(expected)) as caught:
            function(*given, **named)
        self.assertIs(type(caught.exception), type(expected))
        self.assertEqual(vars(caught.exception), vars(expected))

    def assert_list(self, found, expected):
        self.assertIs(type(found), list)
        self.assertEqual(found, expected)

    def assert_defined(self, module, *names):
        """The module defines what the interface lists for it, and does not import it."""
        for name in names:
            with self.subTest(name):
                self.assertEqual(getattr(module, name).__module__, module.__name__)
                self.assertEqual(getattr(module, name).__name__, name)
