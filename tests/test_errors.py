"""[6], [12]: the refusals."""

import unittest

from rulestable import errors
from tests.things import far_numbers, no_words, other_things, truths

FIELDS = {
    "NoRule": ("found",), "NoRanks": ("found",), "NoSymbol": ("found",), "NoTree": ("found",),
    "NoRow": ("found",), "NoItem": ("found",), "NoPrice": ("found",), "TooMany": ("found",),
    "NoText": ("line",), "NoLine": ("line",), "NoHead": ("head",), "Vast": ("head",),
    "Doubled": ("number",), "Dead": ("number",), "NoState": ("state",), "NoPlace": ("place",),
    "Open": ("state", "ahead"),
}


def all_things():
    return other_things() + truths() + far_numbers() + no_words() + [0, 1, "a", "E"]


class TestErrors(unittest.TestCase):

    def test_there_are_seventeen(self):
        told = [name for name in vars(errors) if not name.startswith("_")]
        self.assertEqual(sorted(told), sorted(list(FIELDS) + ["TableError"]))
        self.assertEqual(len(FIELDS), 17)

    def test_table_error_stands_straight_under_value_error(self):
        self.assertEqual(errors.TableError.__bases__, (ValueError,))

    def test_each_stands_straight_under_table_error(self):
        for name in FIELDS:
            with self.subTest(name=name):
                self.assertEqual(getattr(errors, name).__bases__, (errors.TableError,))

    def test_none_stands_under_another(self):
        for one in FIELDS:
            for other in FIELDS:
                if one != other:
                    self.assertFalse(issubclass(getattr(errors, one), getattr(errors, other)), (one, other))

    def test_each_keeps_the_very_thing(self):
        for name, fields in FIELDS.items():
            for thing in all_things():
                things = [thing] + [object() for field in fields[1:]]
                made = getattr(errors, name)(*things)
                for field, kept in zip(fields, things):
                    self.assertIs(getattr(made, field), kept, name)

    def test_open_keeps_both_in_their_order(self):
        for thing in all_things():
            made = errors.Open(7, thing)
            self.assertEqual(made.state, 7)
            self.assertIs(made.ahead, thing)

    def test_each_has_just_its_fields(self):
        for name, fields in FIELDS.items():
            made = getattr(errors, name)(*fields)
            self.assertEqual(vars(made), {field: field for field in fields}, name)

    def test_each_is_made_by_the_names_of_its_fields(self):
        for name, fields in FIELDS.items():
            made = getattr(errors, name)(**{field: [field] for field in fields})
            self.assertEqual(vars(made), {field: [field] for field in fields}, name)

    def test_none_is_made_of_fewer_or_more(self):
        for name, fields in FIELDS.items():
            for count in (len(fields) - 1, len(fields) + 1):
                with self.assertRaises(TypeError, msg=name):
                    getattr(errors, name)(*range(count))

    def test_each_is_taken_by_its_own_name_and_as_a_table_error(self):
        for name, fields in FIELDS.items():
            kind = getattr(errors, name)
            for taken in (kind, errors.TableError, ValueError):
                with self.assertRaises(taken) as caught:
                    raise kind(*fields)
                self.assertIs(type(caught.exception), kind)


if __name__ == "__main__":
    unittest.main()
