import unittest

from checks import FIELDS, Case, any_values
from emptypulls import errors

GROUPS = {
    "BadInput": ["BadRate", "BadName", "BadTrip", "BadTour", "BadStand", "BadCount", "BadOrder",
                 "BadLoads", "BadWord", "BadRule", "BadLog", "BadText", "BadLine"],
    "Refused": ["NoYard", "Unbalanced", "NoTrailer", "LeftStanding", "Unsafe", "Strands", "TooMany"],
    "NoAnswer": ["NoDeed", "NoDepot"],
}


def error_classes():
    return {name: value for name, value in vars(errors).items()
            if isinstance(value, type) and issubclass(value, Exception)}


class ErrorTest(Case):
    def test_the_base_is_a_value_error(self):
        self.assertEqual(errors.PullError.__bases__, (ValueError,))
        self.assertTrue(issubclass(errors.PullError, ValueError))

    def test_each_group_stands_right_below_the_base(self):
        for group in GROUPS:
            self.assertEqual(getattr(errors, group).__bases__, (errors.PullError,))

    def test_each_error_stands_below_its_group_and_below_no_other_one(self):
        classes = error_classes()
        for group, names in GROUPS.items():
            for name in names:
                above = {other for other, value in classes.items()
                         if issubclass(classes[name], value)}
                self.assertEqual(above, {name, group, "PullError"})

    def test_there_are_just_the_listed_errors(self):
        listed = {"PullError", *GROUPS, *(name for names in GROUPS.values() for name in names)}
        self.assertEqual(set(error_classes()), listed)
        self.assertEqual(set(FIELDS), listed - {"PullError", *GROUPS})

    def test_each_is_defined_in_its_file(self):
        for value in error_classes().values():
            self.assertEqual(value.__module__, "emptypulls.errors")

    def test_fields_by_position(self):
        for name, fields in FIELDS.items():
            for value in any_values():
                told = [value, [value], (value,)][:len(fields)]
                error = getattr(errors, name)(*told)
                self.assert_same([getattr(error, field) for field in fields], told)

    def test_fields_by_name(self):
        for name, fields in FIELDS.items():
            for value in any_values():
                told = dict(zip(fields, [value, [value]]))
                error = getattr(errors, name)(**dict(reversed(list(told.items()))))
                self.assert_same({field: getattr(error, field) for field in fields}, told)

    def test_no_more_and_no_fewer_fields(self):
        for name, fields in FIELDS.items():
            if fields:
                with self.assertRaises(TypeError):
                    getattr(errors, name)(*fields[1:])
                with self.assertRaises(TypeError):
                    getattr(errors, name)(*fields, 1)

    def test_each_can_be_caught_by_its_group(self):
        for group, names in GROUPS.items():
            for name in names:
                for caught in (name, group, "PullError"):
                    with self.assertRaises(getattr(errors, caught)):
                        raise getattr(errors, name)(*FIELDS[name])

    def test_what_is_done_to_a_field_later_has_no_effect(self):
        for name, fields in FIELDS.items():
            if not fields:
                continue
            listed, inner, table = [1], [2], {"a": [3]}
            told = [[listed, (inner,), table], [listed]][:len(fields)]
            error = getattr(errors, name)(*told)
            listed.append(4)
            inner.append(4)
            table["a"].append(4)
            table["b"] = 4
            right = [[[1], ([2],), {"a": [3]}], [[1]]][:len(fields)]
            self.assert_same([getattr(error, field) for field in fields], right)


if __name__ == "__main__":
    unittest.main()
