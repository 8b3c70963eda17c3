import unittest

from fewhands.errors import InvalidStaff, TooFew
from fewhands.staffs import Staff
from values import many_kinds

HUGE = 10 ** 30


class StaffCase(unittest.TestCase):
    def assert_invalid(self, value, make, *args, **named):
        """The call raises InvalidStaff with this very value."""
        with self.assertRaises(InvalidStaff) as caught:
            make(*args, **named)
        self.assertIs(caught.exception.value, value)

    def assert_numbers(self, staff, numbers):
        """The staff has these numbers, its kinds in ascending order."""
        self.assertIs(staff.__class__, Staff)
        self.assertEqual(list(staff.numbers().items()), sorted(numbers.items()))


class TestMaking(StaffCase):
    def test_keywords_and_dicts_give_the_same(self):
        for numbers in ({}, {"p": 1}, {"p": 2, "boss": 1}, {"z": 0, "a": HUGE, "abcdefgh": 3}, {"p": 0}):
            one, other = Staff(**numbers), Staff.of(numbers)
            self.assertTrue(one == other)
            self.assertEqual(one.numbers(), other.numbers())
            self.assertEqual((one.kinds, one.total), (other.kinds, other.total))

    def test_by_name(self):
        self.assert_numbers(Staff.of(numbers={"p": 2}), {"p": 2})

    def test_kinds_are_ascending(self):
        staff = Staff(c=1, a=2, b=3, boss=4)
        self.assertEqual(staff.kinds, ("a", "b", "boss", "c"))
        self.assertEqual(list(staff.numbers().items()), [("a", 2), ("b", 3), ("boss", 4), ("c", 1)])
        self.assertEqual(Staff.of({"b": 1, "a": 1}).kinds, ("a", "b"))

    def test_kinds_with_none_are_left_out(self):
        staff = Staff(p=0, boss=2, a=0)
        self.assertEqual(staff.kinds, ("boss",))
        self.assertEqual(staff.numbers(), {"boss": 2})
        self.assertEqual(Staff().kinds, ())
        self.assertEqual(Staff(p=0).numbers(), {})

    def test_total(self):
        self.assertEqual(Staff().total, 0)
        self.assertEqual(Staff(p=0).total, 0)
        self.assertEqual(Staff(p=3, boss=4, a=0).total, 7)
        self.assertEqual(Staff(p=HUGE, boss=HUGE).total, 2 * HUGE)

    def test_more_kinds_than_a_book_has(self):
        self.assertEqual(Staff(a=1, b=1, c=1, d=1, e=1).total, 5)

    def test_numbers_at_the_edges(self):
        for number in (0, 1, HUGE - 1, HUGE):
            self.assertEqual(Staff(p=number)["p"], number)
            self.assertEqual(Staff.of({"p": number})["p"], number)

    def test_wrong_numbers(self):
        for value in many_kinds() + [HUGE + 1, -1, True, False, None, "1", "", 1.0, "one"]:
            if isinstance(value, int) and not isinstance(value, bool) and 0 <= value <= HUGE:
                continue
            self.assert_invalid(value, Staff, p=value)
            self.assert_invalid(value, Staff.of, {"p": value})
            self.assert_invalid(value, Staff.of, {"self": value})

    def test_names_at_the_edges(self):
        for name in ("a", "z", "abcdefgh", "numbers", "packed", "cls", "of", "kinds", "total", "content"):
            self.assert_numbers(Staff(**{name: 2}), {name: 2})
            self.assert_numbers(Staff.of({name: 2}), {name: 2})

    def test_wrong_names(self):
        for name in ("", "abcdefghi", "P", "aP", "p1", "1", "p q", " p", "p\n", "_p", "_self", "p_", "\u00e9",
                     "\u0430", "\u00df", "\uff50", "\ud800"):
            self.assert_invalid(name, Staff, **{name: 1})
            self.assert_invalid(name, Staff.of, {name: 1})

    def test_a_wrong_name_comes_ahead_of_any_wrong_number(self):
        for numbers in ({"a": -1, "Z": 1}, {"Z": 1, "a": -1}, {"a": -1, "z1": 1}, {"z1": True, "a": None}):
            name = [name for name in numbers if name != "a"][0]
            self.assert_invalid(name, Staff, **numbers)
            self.assert_invalid(name, Staff.of, numbers)

    def test_the_first_wrong_name_is_told(self):
        for numbers in ({"b1": 1, "B": -1, "a": 2, "abcdefghi": 3}, {"abcdefghi": 3, "a": 2, "B": -1, "b1": 1}):
            self.assert_invalid("B", Staff, **numbers)
            self.assert_invalid("B", Staff.of, numbers)
        self.assert_invalid("", Staff.of, {"A": 1, "": 1, "B": 1})
        self.assert_invalid("abcdefghi", Staff, zzzzzzzzz=1, abcdefghi=1, b=-1)

    def test_the_first_wrong_number_is_told(self):
        bad, worse = [1], "2"
        for numbers in ({"b": bad, "c": worse, "a": 1}, {"c": worse, "a": 1, "b": bad}):
            self.assert_invalid(bad, Staff, **numbers)
            self.assert_invalid(bad, Staff.of, numbers)
        huge = HUGE + 1
        self.assert_invalid(huge, Staff.of, {"c": -1, "b": huge})
        self.assert_invalid(None, Staff, z=True, y=None, x=0)

    def test_a_kind_named_self(self):
        staff = Staff.of({"self": 2, "p": 1})
        self.assert_numbers(staff, {"self": 2, "p": 1})
        self.assertEqual((staff["self"], staff.total, staff.kinds), (2, 3, ("p", "self")))
        self.assert_invalid("Self", Staff.of, {"self": 2, "Self": 1})
        self.assert_invalid(-1, Staff.of, {"self": -1, "z": None})

    def test_a_kind_named_self_in_operators(self):
        one, other = Staff.of({"self": 2, "p": 1}), Staff.of({"self": 1})
        self.assert_numbers(one + other, {"self": 3, "p": 1})
        self.assert_numbers(one - other, {"self": 1, "p": 1})
        self.assert_numbers(one | other, {"self": 2, "p": 1})
        self.assert_numbers(one & other, {"self": 1})
        self.assertTrue(other.fits_in(one))
        self.assertFalse(one.fits_in(other))
        self.assertFalse(one.within({"self": 1}))

    def test_of_what_is_no_dict(self):
        for value in many_kinds():
            if not isinstance(value, dict):
                self.assert_invalid(value, Staff.of, value)

    def test_of_dicts_with_keys_that_are_no_strings(self):
        for numbers in ({1: 1}, {None: 1}, {"p": 1, 1: 1}, {("p",): 1}, {b"p": 1}, {"P": 1, True: 1}, {"p": -1, 2: 2}):
            self.assert_invalid(numbers, Staff.of, numbers)


class TestReading(StaffCase):
    def test_number_of_a_kind(self):
        staff = Staff(p=2, boss=HUGE, a=0)
        self.assertEqual([staff["p"], staff["boss"], staff["a"], staff["q"]], [2, HUGE, 0, 0])

    def test_number_of_any_other_value(self):
        staff = Staff(q=3, boss=1)
        for value in many_kinds() + [staff, {}, [], ["q"], ("q",), {"q": 3}, b"q", 1.0, 0, set()]:
            self.assertEqual(staff[value], 0, repr(value))
            self.assertIs(staff[value].__class__, int)

    def test_a_staff_is_not_iterated_over(self):
        with self.assertRaises(TypeError):
            list(Staff(p=1))

    def test_equal(self):
        for one, other in (
            (Staff(), Staff()), (Staff(p=0), Staff()), (Staff(p=0), Staff(q=0)), (Staff(p=1), Staff(p=1)),
            (Staff(a=1, b=2), Staff(b=2, a=1)), (Staff(a=1, b=2, c=0), Staff(b=2, a=1)),
            (Staff(p=HUGE), Staff.of({"p": HUGE})),
        ):
            self.assertIs(one == other, True)
            self.assertIs(other == one, True)
            self.assertIs(one != other, False)

    def test_not_equal(self):
        for one, other in (
            (Staff(), Staff(p=1)), (Staff(p=1), Staff(p=2)), (Staff(p=1), Staff(q=1)),
            (Staff(a=1, b=2), Staff(a=2, b=1)), (Staff(a=1, b=2), Staff(a=1)), (Staff(p=HUGE), Staff(p=HUGE - 1)),
        ):
            self.assertIs(one == other, False)
            self.assertIs(other == one, False)
            self.assertIs(one != other, True)

    def test_never_equal_to_other_kinds_of_values(self):
        for value in many_kinds():
            if not isinstance(value, Staff):
                for staff in (Staff(), Staff(p=1)):
                    self.assertIs(staff == value, False, repr(value))
                    self.assertIs(value == staff, False, repr(value))
                    self.assertIs(staff != value, True, repr(value))


class TestOperators(StaffCase):
    def test_sum(self):
        self.assert_numbers(Staff(p=2) + Staff(p=1, boss=1), {"boss": 1, "p": 3})
        self.assert_numbers(Staff(b=1) + Staff(a=1), {"a": 1, "b": 1})
        self.assert_numbers(Staff() + Staff(), {})
        self.assert_numbers(Staff(p=1) + Staff(), {"p": 1})
        self.assert_numbers(Staff() + Staff(p=1), {"p": 1})
        self.assert_numbers(Staff(p=HUGE - 1) + Staff(p=1), {"p": HUGE})

    def test_sum_beyond_the_greatest_number(self):
        for one, other, value in (
            (Staff(p=HUGE), Staff(p=1), HUGE + 1),
            (Staff(p=1), Staff(p=HUGE), HUGE + 1),
            (Staff(b=HUGE, a=HUGE), Staff(b=1, a=2), HUGE + 2),
            (Staff(c=HUGE, a=HUGE), Staff(c=3, b=HUGE), HUGE + 3),
        ):
            with self.assertRaises(InvalidStaff) as caught:
                one + other
            self.assertEqual(caught.exception.value, value)

    def test_difference(self):
        self.assert_numbers(Staff(p=3, boss=1) - Staff(p=1), {"boss": 1, "p": 2})
        self.assert_numbers(Staff(p=3, boss=1) - Staff(p=3), {"boss": 1})
        self.assert_numbers(Staff(p=3) - Staff(p=3), {})
        self.assert_numbers(Staff(p=3) - Staff(), {"p": 3})
        self.assert_numbers(Staff() - Staff(p=0), {})
        self.assert_numbers(Staff(p=HUGE) - Staff(p=1), {"p": HUGE - 1})

    def test_difference_with_too_few(self):
        for one, other, kind in (
            (Staff(p=1), Staff(p=2), "p"),
            (Staff(), Staff(p=1), "p"),
            (Staff(b=1, c=1, a=5), Staff(c=2, b=2, a=5), "b"),
            (Staff(z=1), Staff(z=2, q=1, r=1), "q"),
            (Staff(a=9), Staff(b=1, a=10), "a"),
        ):
            with self.assertRaises(TooFew) as caught:
                one - other
            self.assertEqual(caught.exception.kind, kind)

    def test_greater_and_smaller_numbers(self):
        one, other = Staff(a=1, b=5, c=2), Staff(d=4, b=3, c=7)
        for left, right in ((one, other), (other, one)):
            self.assert_numbers(left | right, {"a": 1, "b": 5, "c": 7, "d": 4})
            self.assert_numbers(left & right, {"b": 3, "c": 2})
        self.assert_numbers(one | Staff(), {"a": 1, "b": 5, "c": 2})
        self.assert_numbers(Staff() | one, {"a": 1, "b": 5, "c": 2})
        self.assert_numbers(one & Staff(), {})
        self.assert_numbers(Staff() & one, {})
        self.assert_numbers(Staff(p=HUGE) | Staff(p=HUGE), {"p": HUGE})
        self.assert_numbers(Staff(p=HUGE) & Staff(p=HUGE), {"p": HUGE})

    def test_operands_stay_as_they_are(self):
        one, other = Staff(p=3, boss=1), Staff(p=1)
        for made in (one + other, one - other, one | other, one & other):
            self.assertIsNot(made, one)
            self.assertIsNot(made, other)
        with self.assertRaises(TooFew):
            other - one
        with self.assertRaises(InvalidStaff):
            one + Staff(p=HUGE)
        one.fits_in(other)
        one.within({"p": 1})
        self.assert_numbers(one, {"p": 3, "boss": 1})
        self.assert_numbers(other, {"p": 1})

    def test_in_place_signs_make_a_new_staff(self):
        one = kept = Staff(p=1)
        one += Staff(p=1)
        one |= Staff(q=1)
        self.assert_numbers(one, {"p": 2, "q": 1})
        self.assert_numbers(kept, {"p": 1})


class TestComparing(StaffCase):
    def test_fits_in(self):
        for one, other in (
            (Staff(), Staff()), (Staff(), Staff(p=1)), (Staff(p=1), Staff(p=1)), (Staff(p=1), Staff(p=2)),
            (Staff(p=1, q=0), Staff(p=1)), (Staff(a=1, c=2), Staff(a=1, b=1, c=3)), (Staff(p=HUGE - 1), Staff(p=HUGE)),
        ):
            self.assertIs(one.fits_in(other), True)
            self.assertIs(one.fits_in(other=other), True)

    def test_does_not_fit_in(self):
        for one, other in (
            (Staff(p=1), Staff()), (Staff(p=2), Staff(p=1)), (Staff(p=1), Staff(boss=3)),
            (Staff(a=1, b=1), Staff(a=5)), (Staff(a=1, b=3), Staff(a=5, b=2)), (Staff(p=HUGE), Staff(p=HUGE - 1)),
        ):
            self.assertIs(one.fits_in(other), False)

    def test_within(self):
        for staff, limits in (
            (Staff(), {}), (Staff(p=HUGE), {}), (Staff(p=2), {"p": 2, "boss": None}), (Staff(p=2), {"p": 3}),
            (Staff(p=2), {"p": None}), (Staff(p=2), {"boss": 0}), (Staff(p=2, boss=9), {"p": 2}),
            (Staff(), {"p": 0, "q": None}), (Staff(a=1, b=2), {"b": 2, "a": 1}),
        ):
            self.assertIs(staff.within(limits), True, limits)
            self.assertIs(staff.within(limits=limits), True, limits)

    def test_not_within(self):
        for staff, limits in (
            (Staff(p=2), {"p": 1}), (Staff(p=1), {"p": 0}), (Staff(p=2, boss=1), {"p": 2, "boss": 0}),
            (Staff(a=3, b=2), {"b": 2, "a": 2}), (Staff(a=3, b=2), {"a": 2, "b": 2}), (Staff(p=2), {"boss": None, "p": 1}),
            (Staff(p=HUGE), {"p": HUGE - 1}),
        ):
            self.assertIs(staff.within(limits), False, limits)

    def test_limits_below_zero_let_nobody_in(self):
        self.assertIs(Staff().within({"p": -1}), False)
        self.assertIs(Staff(p=0).within({"p": -1, "q": 3}), False)


class TestCopies(StaffCase):
    def test_the_dict_that_was_passed(self):
        numbers = {"p": 2, "boss": 0}
        staff = Staff.of(numbers)
        numbers["p"] = 5
        numbers["q"] = -1
        self.assert_numbers(staff, {"p": 2})
        keywords = {"p": 1}
        other = Staff(**keywords)
        keywords["p"] = 2
        self.assert_numbers(other, {"p": 1})

    def test_the_dict_that_was_returned(self):
        staff = Staff(p=2)
        numbers = staff.numbers()
        numbers["p"] = 5
        numbers["boss"] = 1
        self.assert_numbers(staff, {"p": 2})
        self.assertEqual((staff["p"], staff["boss"], staff.total, staff.kinds), (2, 0, 2, ("p",)))
        self.assertIsNot(staff.numbers(), staff.numbers())

    def test_arguments_stay_as_they_are(self):
        numbers = {"z": 1, "a": 0}
        Staff.of(numbers)
        self.assertEqual(list(numbers.items()), [("z", 1), ("a", 0)])
        limits = {"z": None, "a": 0}
        Staff(z=1).within(limits)
        self.assertEqual(list(limits.items()), [("z", None), ("a", 0)])
        with self.assertRaises(InvalidStaff):
            Staff.of({"z": 1, "A": 0})

    def test_results_of_operators_stand_alone(self):
        one, other = Staff(p=2), Staff()
        for made in (one + other, one - other, one | other, one & one):
            made.numbers()["p"] = 9
            self.assert_numbers(made, {"p": 2})
            self.assert_numbers(one, {"p": 2})


class TestExample(StaffCase):
    def test_the_example_of_the_document(self):
        shown = [(Staff(p=2) + Staff(p=1, boss=1)).numbers(), Staff(p=1).fits_in(Staff(boss=3)),
                 (Staff(p=2) | Staff(p=1, boss=1)).total, Staff(p=2).within({"p": 2, "boss": None})]
        self.assertEqual(repr(shown), "[{'boss': 1, 'p': 3}, False, 3, True]")
