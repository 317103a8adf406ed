"""Promise [10] and the list of the errors: classes, families and fields."""

import unittest

from rebuiltby import errors
from tests.books import NO_NAMES, BookCase

FAMILIES = {
    'PaperError': {'InvalidPaper': ('word', 'at')},
    'BookError': {'NotUsable': ('word', 'at'), 'NotCalm': ('steps',)},
    'WatchError': {'InvalidEvent': ('event', 'reason'), 'NothingToUndo': ('steps',)},
    'TextError': {'InvalidText': ('line', 'field'), 'InvalidRow': ('row',)},
}


class ErrorsTest(BookCase):

    def test_families(self):
        self.assertEqual(errors.RebuiltError.__bases__, (ValueError,))
        for family, rows in FAMILIES.items():
            self.assertEqual(getattr(errors, family).__bases__, (errors.RebuiltError,))
            for name in rows:
                self.assertEqual(getattr(errors, name).__bases__, (getattr(errors, family),))
                self.assertEqual(getattr(errors, name).__module__, 'rebuiltby.errors')

    def test_no_other_family(self):
        for family, rows in FAMILIES.items():
            for name in rows:
                error = getattr(errors, name)
                self.assertEqual(error.__mro__, (
                    error, getattr(errors, family), errors.RebuiltError, ValueError, Exception, BaseException, object))
        told = ['RebuiltError', *FAMILIES, *[name for rows in FAMILIES.values() for name in rows]]
        defined = [name for name, thing in vars(errors).items() if isinstance(thing, type)]
        self.assertEqual(sorted(defined), sorted(told))

    def test_fields_are_kept_as_they_are(self):
        for rows in FAMILIES.values():
            for name, fields in rows.items():
                for value in NO_NAMES + ('a', [1, [2]]):
                    values = [value, (value, 1)][:len(fields)]
                    error = getattr(errors, name)(*values)
                    self.assertEqual(sorted(vars(error)), sorted(fields))
                    for field, given in zip(fields, values):
                        self.assertIs(getattr(error, field), given)

    def test_fields_by_name(self):
        for rows in FAMILIES.values():
            for name, fields in rows.items():
                told = {field: (field, True) for field in fields}
                self.assert_same(vars(getattr(errors, name)(**told)), told)

    def test_exactly_the_fields(self):
        for rows in FAMILIES.values():
            for name, fields in rows.items():
                for many in range(5):
                    if many != len(fields):
                        self.assertRaises(TypeError, getattr(errors, name), *range(many))
                self.assertRaises(TypeError, getattr(errors, name), *fields[1:], other=1)

    def test_a_family_catches_its_errors(self):
        with self.assertRaises(errors.PaperError):
            raise errors.InvalidPaper('shape', -1)
        with self.assertRaises(errors.RebuiltError):
            raise errors.InvalidText(0, 1)
        with self.assertRaises(ValueError):
            raise errors.NotUsable('k', -1)


if __name__ == '__main__':
    unittest.main()
