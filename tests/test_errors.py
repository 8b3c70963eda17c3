import unittest

from fewhands import errors
from values import many_kinds

NAMED = {
    ValueError: {
        "InvalidName": ("value",), "InvalidStaff": ("value",), "InvalidTask": ("field",),
        "InvalidKinds": ("value",), "InvalidTasks": ("value",), "InvalidPlan": ("value",),
        "InvalidText": ("index",), "InvalidWages": ("value",), "InvalidPrices": ("value",),
        "InvalidLog": ("value",), "Clash": ("name",), "NotSameKinds": (),
        "CommandError": ("value",), "InUse": ("name",),
    },
    LookupError: {
        "UnknownKind": ("value",), "UnknownTask": ("value",), "UnknownStand": ("value",),
        "UnknownMove": ("value",), "UnknownCase": ("value",), "UnknownPerson": ("value",),
        "OutOfRange": ("value",),
    },
    OverflowError: {"TooMany": ("limit",), "TooFew": ("kind",)},
    RuntimeError: {
        "NotNow": ("value",), "WrongNumber": ("number",), "Twice": ("person",),
        "LacksRole": ("person",), "DidLast": ("person", "name"), "DidNotLast": ("person", "name"),
        "Hopeless": ("case",), "InTrial": (),
    },
}


def rows():
    """For each error of the document: the Python error, the class and the names of its fields."""
    return [(base, getattr(errors, name), fields)
            for base, named in NAMED.items() for name, fields in named.items()]


def filled(fields):
    """Lists of values for the fields, so that each field gets a value of every kind."""
    values = many_kinds()
    return [tuple(values[(at + 3 * k) % len(values)] for k in range(len(fields)))
            for at in range(len(values))]


class TestErrors(unittest.TestCase):
    def test_there_are_all_of_them(self):
        self.assertEqual(len(rows()), 31)

    def test_created_by_position(self):
        for _, made, fields in rows():
            for values in filled(fields):
                error = made(*values)
                for field, value in zip(fields, values):
                    self.assertIs(getattr(error, field), value, (made, field))

    def test_created_by_name(self):
        for _, made, fields in rows():
            for values in filled(fields):
                error = made(**dict(reversed(list(zip(fields, values)))))
                for field, value in zip(fields, values):
                    self.assertIs(getattr(error, field), value, (made, field))

    def test_created_by_position_and_name(self):
        for made in (errors.DidLast, errors.DidNotLast):
            error = made("ann", name="enter")
            self.assertEqual((error.person, error.name), ("ann", "enter"))

    def test_fields_have_to_be_given(self):
        for _, made, fields in rows():
            if fields:
                with self.assertRaises(TypeError, msg=made):
                    made()

    def test_values_are_not_copied(self):
        numbers = {"p": [1]}
        error = errors.InvalidStaff(numbers)
        numbers["p"].append(2)
        self.assertIs(error.value, numbers)
        self.assertEqual(error.value, {"p": [1, 2]})

    def test_direct_subclasses_of_the_named_error(self):
        for base, made, fields in rows():
            self.assertEqual(made.__bases__, (base,), made)

    def test_instances_of_the_named_error_alone(self):
        for base, made, fields in rows():
            error = made(*fields)
            for other in NAMED:
                self.assertEqual(isinstance(error, other), other is base, (made, other))

    def test_none_is_below_another(self):
        for _, one, _ in rows():
            for _, other, _ in rows():
                self.assertEqual(issubclass(one, other), one is other, (one, other))

    def test_raised_and_caught(self):
        for base, made, fields in rows():
            with self.assertRaises(base) as caught:
                raise made(*fields)
            self.assertIs(caught.exception.__class__, made)

    def test_messages_can_be_shown(self):
        for _, made, fields in rows():
            for values in filled(fields):
                self.assertIsInstance(str(made(*values)), str)
