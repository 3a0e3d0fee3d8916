"""Promises [2] and [20]: peermend.rules."""

import unittest
from itertools import product

from helpers import CHOICES, NAMES, STANDARD, Case, words_of
from peermend import rules
from peermend.errors import InvalidNumber, InvalidRules
from peermend.rules import Rules

WORDS = {name: tuple(words) for name, (_, words) in CHOICES.items()}
WRONG_WORDS = ("", "Back", "back ", "left", "hook", "standard", "backforward")
WRONG_NAMES = ("", "Hook", "claim", "pair", "free", "hooks", "number", "choice", "back", "_choices")


def words(given):
    return (given.hook, given.relay, given.clamp, given.trail, given.wheel)


def named(five):
    return dict(zip(NAMES, five))


def wrong_for(name):
    """Words that are wrong for the name, among them the words of other names."""
    others = {word for both in WORDS.values() for word in both} - set(WORDS[name])
    return WRONG_WORDS + tuple(sorted(others))


class Interface(Case):

    def test_the_class_is_defined_in_its_file(self):
        self.assert_defined(rules, "Rules")
        for name in ("hook", "relay", "clamp", "trail", "wheel", "change", "choice", "number",
                     "copy", "numbered", "COUNT", "NAMES", "__init__", "__eq__", "__repr__"):
            self.assertIn(name, vars(Rules))
        for name in NAMES + ("number",):
            self.assertIsInstance(vars(Rules)[name], property)
        self.assertIsInstance(vars(Rules)["numbered"], classmethod)

    def test_the_class_values(self):
        self.assertEqual(Rules.COUNT, 32)
        self.assertEqual(Rules.NAMES, ("hook", "relay", "clamp", "trail", "wheel"))
        self.assertIs(type(Rules.NAMES), tuple)

    def test_choices_are_passed_by_keyword(self):
        with self.assertRaises(TypeError):
            Rules("back")


class Making(Case):

    def test_the_standard_rules(self):
        self.assertEqual(words(Rules()), ("back", "near", "inner", "near", "even"))
        self.assertEqual(words(Rules()), STANDARD)
        self.assertEqual(Rules().number, 0)

    def test_all_choices(self):
        for number, five in ((number, words_of(number)) for number in range(32)):
            made = Rules(**named(five))
            self.assertEqual(words(made), five)
            self.assertEqual(made.number, number)
            self.assertEqual([made.choice(name) for name in NAMES], list(five))

    def test_each_name_has_its_number(self):
        for made, number in ((Rules(hook="forward"), 1), (Rules(relay="far"), 2),
                             (Rules(clamp="outer"), 4), (Rules(trail="far"), 8),
                             (Rules(wheel="odd"), 16), (Rules(trail="far", hook="forward"), 9),
                             (Rules(hook="back", relay="near"), 0)):
            self.assertEqual(made.number, number)

    def test_one_wrong_choice(self):
        for name in NAMES:
            for word in wrong_for(name):
                self.assert_error(InvalidRules(name), Rules, **{name: word})
                for number in (0, 31):
                    given = dict(named(words_of(number)), **{name: word})
                    self.assert_error(InvalidRules(name), Rules, **given)

    def test_several_wrong_choices_the_first_name_counts(self):
        for wrong in product((False, True), repeat=5):
            bad = {name: "wrong" for name, is_wrong in zip(NAMES, wrong) if is_wrong}
            if bad:
                first = next(iter(bad))
                self.assert_error(InvalidRules(first), Rules, **bad)
                backwards = dict(reversed(list(bad.items())))
                self.assert_error(InvalidRules(first), Rules, **backwards)


class Numbers(Case):

    def test_forth_and_back(self):
        for number in range(32):
            made = Rules.numbered(number)
            self.assertIs(type(made), Rules)
            self.assertEqual(words(made), words_of(number))
            self.assertEqual(made.number, number)

    def test_invalid_numbers(self):
        for number in (-1, 32, -32, 33, 64, -10 ** 20, 10 ** 20):
            self.assert_error(InvalidNumber(number), Rules.numbered, number)

    def test_repr(self):
        self.assertEqual(repr(Rules()), "Rules(0)")
        self.assertEqual(repr(Rules(hook="forward", clamp="outer")), "Rules(5)")
        self.assertEqual([repr(Rules.numbered(number)) for number in range(32)],
                         [f"Rules({number})" for number in range(32)])

    def test_equality(self):
        for first, second in product(range(32), repeat=2):
            self.assertIs(Rules.numbered(first) == Rules.numbered(second), first == second)
            self.assertIs(Rules.numbered(first) != Rules.numbered(second), first != second)
        for other in (None, 0, "Rules(0)", (), STANDARD):
            self.assertIs(Rules() == other, False)


class Replacing(Case):

    def test_each_property_with_both_words(self):
        for number, name in product(range(32), NAMES):
            for word in WORDS[name]:
                given = Rules.numbered(number)
                setattr(given, name, word)
                changed = Rules.numbered(number)
                self.assertIsNone(changed.change(name, word))
                expected = dict(named(words_of(number)), **{name: word})
                for made in (given, changed):
                    self.assertEqual(words(made), tuple(expected.values()))
                    self.assertEqual(made, Rules(**expected))
                    self.assertEqual(made.choice(name), word)

    def test_wrong_words(self):
        for number, name in product((0, 13, 18, 31), NAMES):
            for word in wrong_for(name):
                given = Rules.numbered(number)
                self.assert_error(InvalidRules(name), setattr, given, name, word)
                self.assertEqual(given.number, number)
                self.assert_error(InvalidRules(name), given.change, name, word)
                self.assertEqual(words(given), words_of(number))

    def test_wrong_names(self):
        for name in WRONG_NAMES:
            given = Rules.numbered(22)
            self.assert_error(InvalidRules(name), given.choice, name)
            for word in ("back", "near", "odd", "wrong"):
                self.assert_error(InvalidRules(name), given.change, name, word)
            self.assertEqual(words(given), words_of(22))

    def test_a_choice_does_not_change_the_rules(self):
        given = Rules(trail="far")
        self.assertEqual([given.choice(name) for name in NAMES],
                         ["back", "near", "inner", "far", "even"])
        self.assertEqual(given, Rules(trail="far"))

    def test_a_copy(self):
        for number in range(32):
            first = Rules.numbered(number)
            second = first.copy()
            self.assertIs(type(second), Rules)
            self.assertIsNot(second, first)
            self.assertEqual(words(second), words_of(number))
            other = {word: WORDS["clamp"][1 - at] for at, word in enumerate(WORDS["clamp"])}
            second.clamp = other[second.clamp]
            self.assertEqual((first.number, second.number), (number, number ^ 4))
            first.change("hook", "forward")
            first.change("wheel", "odd")
            self.assertEqual((first.number, second.number), (number | 17, number ^ 4))

    def test_rules_do_not_share_their_choices(self):
        first, second = Rules(), Rules()
        first.hook = "forward"
        self.assertEqual((second.number, Rules().number), (0, 0))


if __name__ == "__main__":
    unittest.main()
