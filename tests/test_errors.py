"""Promise [2] and the interface, as far as they speak of peermend.errors."""

import unittest

from peermend import errors
from peermend.images import check_image, check_pair, check_state
from peermend.pieces import pieces

WITH_ONE = {
    "InvalidSize": "size",
    "InvalidImage": "record",
    "NotState": "record",
    "Unrepairable": "group",
    "InvalidRecord": "record",
    "Busy": "record",
    "Written": "record",
    "NotReady": "record",
    "InvalidNumber": "value",
    "InvalidRules": "name",
    "InvalidStore": "at",
    "Ambiguous": "numbers",
    "NoWriter": "writer",
    "Unsafe": "refused",
}
WITHOUT = (
    "UnequalSizes", "InvalidUpdate", "InvalidKind", "InvalidChange", "InvalidOrder",
    "NoStory", "NotInBook", "Down", "NotDown", "NothingToUndo", "NothingToRedo",
)
EXAMPLES = {
    "Unrepairable": [0, 1, 2],
    "Ambiguous": [3, 5],
    "InvalidRules": "hook",
    "Unsafe": (("chain", 4, 1),),
}


def listed():
    return {name: getattr(errors, name) for name in list(WITH_ONE) + list(WITHOUT)}


class ErrorClasses(unittest.TestCase):

    def test_one_argument_is_kept_in_its_attribute(self):
        for name, attribute in WITH_ONE.items():
            with self.subTest(name):
                given = EXAMPLES.get(name, 7)
                error = getattr(errors, name)(given)
                self.assertEqual(vars(error), {attribute: given})
                self.assertIs(type(getattr(error, attribute)), type(given))

    def test_numbers_keep_their_value(self):
        for name, attribute in WITH_ONE.items():
            for given in (0, -1, 10 ** 20):
                with self.subTest(name, given=given):
                    error = getattr(errors, name)(given)
                    self.assertEqual(getattr(error, attribute), given)

    def test_one_argument_is_required(self):
        for name in WITH_ONE:
            with self.subTest(name), self.assertRaises(TypeError):
                getattr(errors, name)()

    def test_the_others_take_no_argument(self):
        for name in WITHOUT:
            with self.subTest(name):
                self.assertEqual(vars(getattr(errors, name)()), {})

    def test_each_is_a_mend_error_and_a_value_error(self):
        self.assertTrue(issubclass(errors.MendError, ValueError))
        for name, made in listed().items():
            with self.subTest(name):
                self.assertTrue(issubclass(made, errors.MendError))
                self.assertTrue(issubclass(made, ValueError))

    def test_none_has_another_one_under_it(self):
        classes = listed()
        for above, upper in classes.items():
            for below, lower in classes.items():
                with self.subTest(above=above, below=below):
                    self.assertEqual(issubclass(lower, upper), above == below)

    def test_each_is_defined_in_its_file_under_its_name(self):
        for name, made in {**listed(), "MendError": errors.MendError}.items():
            with self.subTest(name):
                self.assertEqual((made.__module__, made.__name__), ("peermend.errors", name))

    def test_a_list_that_is_given_is_copied(self):
        for name in ("Unrepairable", "Ambiguous"):
            with self.subTest(name):
                given = [0, 1, 2]
                error = getattr(errors, name)(given)
                given.append(3)
                self.assertEqual(getattr(error, WITH_ONE[name]), [0, 1, 2])


class RaisedErrors(unittest.TestCase):

    def test_each_can_be_caught_as_mend_error_and_as_value_error(self):
        faults = (
            (check_image, [[1]]),
            (check_state, [[1, 1]]),
            (check_pair, [[], [0]]),
            (pieces, [[1, 2, 0]]),
        )
        for function, given in faults:
            for kind in (errors.MendError, ValueError):
                with self.subTest(function.__name__, kind=kind), self.assertRaises(kind):
                    function(*given)

    def test_a_changed_group_does_not_change_the_next_error(self):
        image = [1, 2, 0]
        with self.assertRaises(errors.Unrepairable) as first:
            pieces(image)
        first.exception.group.clear()
        with self.assertRaises(errors.Unrepairable) as second:
            pieces(image)
        self.assertEqual(second.exception.group, [0, 1, 2])


if __name__ == "__main__":
    unittest.main()
