"""Section 19 and what section 2 says of errors."""

import unittest

from tagless import errors
from tagless.errors import TaglessError

NAMES = """NoKind NoDocument BadBook Unnamed Ring BadForms Clash NoReading BadReading BadSide TooLarge
NotEither BadOrder NoOrder TooMany BadMember BadPlace BadField NoField BadDraft BadRoad BadChanges
BadOffers BadWish BadEdition BadTruth Broken NotKept NoNumber Turned NothingToUndo NothingToRedo
NoTrial BadText BadJournal BadLine""".split()


def deep(levels):
    value = ()
    for _ in range(levels):
        value = [value]
    return value


VALUES = [0, -1, 10 ** 5000, True, False, None, "", "text\n", (), (1, 2), [], [1, [2]], {}, {"a": 1}, {1: (2,)}, deep(90)]


def classes():
    return [getattr(errors, name) for name in NAMES]


class TestErrors(unittest.TestCase):

    def test_all_of_them_and_no_others_are_there(self):
        there = [name for name, value in vars(errors).items() if isinstance(value, type)]
        self.assertEqual(sorted(there), sorted(NAMES + ["TaglessError"]))

    def test_the_base_is_directly_a_value_error(self):
        self.assertEqual(TaglessError.__bases__, (ValueError,))

    def test_each_stands_directly_below_the_base(self):
        for one in classes():
            self.assertEqual(one.__bases__, (TaglessError,), one)

    def test_each_has_the_name_of_the_section(self):
        self.assertEqual([one.__name__ for one in classes()], NAMES)

    def test_each_keeps_any_value(self):
        for one in classes() + [TaglessError]:
            for value in VALUES:
                self.assertIs(one(value).value, value)
                self.assertIs(one(value=value).value, value)

    def test_true_stays_true(self):
        self.assertIs(errors.BadTruth(1).value, 1)
        self.assertIs(errors.BadTruth(True).value, True)

    def test_a_raised_one_has_the_very_value(self):
        for one in classes():
            for value in VALUES:
                with self.assertRaises(one) as caught:
                    raise one(value)
                self.assertIs(caught.exception.value, value)

    def test_each_is_caught_as_the_base_and_as_a_value_error(self):
        for one in classes():
            for wider in (TaglessError, ValueError):
                with self.assertRaises(wider):
                    raise one([1])

    def test_none_is_of_another_class(self):
        for one in classes():
            for other in classes():
                self.assertEqual(isinstance(one(0), other), one is other)

    def test_an_argument_is_needed(self):
        with self.assertRaises(TypeError):
            errors.NoKind()


if __name__ == "__main__":
    unittest.main()
