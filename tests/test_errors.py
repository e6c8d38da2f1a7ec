import unittest

from samples import ANY_VALUES, EXAMPLE
from seldomseen import errors

NAMES = (
    'BadSteps BadClock BadPages BadMove BadSet NoStep BadLength BadRun BadSets BadWatch BadJournal BadTick NoPage '
    'BadRange BadStates OtherMachine BadWeight BadBound TooMany BadPrices BadMarks Stuck TooLong OtherWatch NoState '
    'OtherSet NothingToUndo Nothing BadText BadLine').split()


class ErrorsTest(unittest.TestCase):

    def test_all_are_there_and_no_others(self):
        found = [name for name, thing in vars(errors).items() if isinstance(thing, type)]
        self.assertEqual(sorted(found), sorted(NAMES + ['SeldomError']))

    def test_base_classes(self):
        self.assertEqual(errors.SeldomError.__bases__, (ValueError,))
        for name in NAMES:
            with self.subTest(name):
                self.assertEqual(getattr(errors, name).__bases__, (errors.SeldomError,))

    def test_each_is_defined_in_its_file(self):
        for name in NAMES + ['SeldomError']:
            self.assertEqual(getattr(errors, name).__module__, 'seldomseen.errors')

    def test_value_by_position_and_by_name(self):
        for name in NAMES + ['SeldomError']:
            kind = getattr(errors, name)
            for value in ANY_VALUES + (EXAMPLE,):
                self.assertIs(kind(value).value, value)
                self.assertIs(kind(value=value).value, value)

    def test_one_value_only(self):
        for name in NAMES + ['SeldomError']:
            kind = getattr(errors, name)
            with self.assertRaises(TypeError):
                kind()
            with self.assertRaises(TypeError):
                kind(1, 2)
            with self.assertRaises(TypeError):
                kind(other=1)

    def test_they_are_raised_and_caught(self):
        for name in NAMES:
            with self.assertRaises(ValueError) as caught:
                raise getattr(errors, name)(['x'])
            self.assertEqual(caught.exception.value, ['x'])


if __name__ == '__main__':
    unittest.main()
