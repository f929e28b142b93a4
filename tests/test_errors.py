import unittest

from common import FIELDS, same, values
from flagfree import errors


class ErrorsTest(unittest.TestCase):

    def test_base(self):
        self.assertEqual(errors.FlagError.__bases__, (ValueError,))

    def test_bases(self):
        self.assertEqual(len(FIELDS), 27)
        for name in FIELDS:
            self.assertEqual(getattr(errors, name).__bases__, (errors.FlagError,), name)

    def test_all_are_unlike(self):
        classes = [getattr(errors, name) for name in FIELDS]
        for one in classes:
            for other in classes:
                self.assertEqual(issubclass(one, other), one is other)

    def test_by_position(self):
        for name, fields in FIELDS.items():
            for value in values():
                told = [value, 7][:len(fields)]
                error = getattr(errors, name)(*told)
                for field, kept in zip(fields, told):
                    self.assertTrue(same(getattr(error, field), kept))

    def test_by_name(self):
        for name, fields in FIELDS.items():
            for value in values():
                told = dict(zip(reversed(fields), [value, 7]))
                error = getattr(errors, name)(**told)
                for field in fields:
                    self.assertTrue(same(getattr(error, field), told[field]))

    def test_raised_and_caught(self):
        for name, fields in FIELDS.items():
            for base in (getattr(errors, name), errors.FlagError, ValueError):
                with self.assertRaises(base):
                    raise getattr(errors, name)(*[3, 4][:len(fields)])


if __name__ == "__main__":
    unittest.main()
