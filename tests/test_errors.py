"""Point 3: the exceptions."""

import unittest

from oldclients import errors
from oldclients.libraries import Library
from tests.helpers import ERROR_FIELDS, Grump, oddities, own, raised, strangers

class Classes(unittest.TestCase):
    def test_each_derives_directly(self):
        self.assertEqual(errors.OldError.__bases__, (ValueError,))
        for name in ERROR_FIELDS:
            self.assertEqual(getattr(errors, name).__bases__, (errors.OldError,), name)

    def test_old_error_can_be_raised(self):
        with self.assertRaises(ValueError):
            raise errors.OldError("why")

    def test_fields_by_position_and_by_name(self):
        for name, fields in ERROR_FIELDS.items():
            made = getattr(errors, name)
            values = [object() for _ in fields]
            backwards = dict(reversed(list(zip(fields, values))))
            for error in (made(*values), made(**dict(zip(fields, values))), made(**backwards)):
                for field, value in zip(fields, values):
                    self.assertIs(getattr(error, field), value, (name, field))

    def test_any_values_are_kept_as_they_are(self):
        for name, fields in ERROR_FIELDS.items():
            for value in strangers() + oddities() + [[[]], -1, True, "", (1, [2])]:
                error = getattr(errors, name)(*[value] * len(fields))
                for field in fields:
                    self.assertIs(getattr(error, field), value)

    def test_each_can_be_caught_as_itself_alone(self):
        for name, fields in ERROR_FIELDS.items():
            error = getattr(errors, name)(*fields)
            for other in ERROR_FIELDS:
                self.assertEqual(isinstance(error, getattr(errors, other)), name == other)
            with self.assertRaises(errors.OldError):
                raise error


class WhichOne(unittest.TestCase):
    def test_the_first_of_several_in_one_point(self):
        library = Library([own("A")])
        self.assertEqual(raised(library.last_override, "Q", "R", "s"), ("NoClass", "Q"))
        self.assertEqual(raised(library.last_override, "A", "R", "s"), ("NoClass", "R"))
        self.assertEqual(raised(library.last_override, "A", "A", "s"), ("NoMember", "s"))

    def test_the_smaller_point_goes_first(self):
        library = Library([own("A")])
        self.assertEqual(raised(library.found, "Q", 7), ("NoClass", "Q"))
        self.assertEqual(raised(library.found, "A", 7), ("NoMember", 7))

    def test_the_value_itself_is_in_the_error(self):
        library, value = Library([]), Grump()
        with self.assertRaises(errors.NoClass) as caught:
            library.item(value)
        self.assertIs(caught.exception.name, value)


if __name__ == "__main__":
    unittest.main()
