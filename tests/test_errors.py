import unittest

from gaprules import errors

# Name, built-in base, names of the arguments.
LISTED = (
    ("NotALog", ValueError, ("value",)),
    ("InvalidRules", ValueError, ("place",)),
    ("InvalidClaim", ValueError, ()),
    ("Unpaired", ValueError, ()),
    ("ParseError", ValueError, ("line",)),
    ("UnknownState", LookupError, ("state",)),
    ("UnknownEdge", LookupError, ("edge",)),
    ("UnknownCheckpoint", LookupError, ("number",)),
    ("UnknownRecord", LookupError, ("number",)),
    ("EdgeExists", RuntimeError, ("edge",)),
    ("Endless", RuntimeError, ()),
    ("LimitExceeded", OverflowError, ("limit",)),
)


class ErrorsTest(unittest.TestCase):
    def test_each_is_defined_here_and_directly_below_its_base(self):
        for name, base, _ in LISTED:
            with self.subTest(name):
                error = getattr(errors, name)
                self.assertEqual(error.__bases__, (base,))
                self.assertEqual(error.__module__, "gaprules.errors")

    def test_none_is_a_kind_of_another(self):
        for name, _, _ in LISTED:
            for other, _, _ in LISTED:
                if name != other:
                    with self.subTest((name, other)):
                        self.assertFalse(issubclass(getattr(errors, name), getattr(errors, other)))

    def test_module_holds_just_the_listed_errors(self):
        found = [name for name, value in vars(errors).items() if isinstance(value, type)]
        self.assertEqual(sorted(found), sorted(name for name, _, _ in LISTED))

    def test_arguments_by_position(self):
        for name, _, arguments in LISTED:
            for value in (3, "x", None, (1, "a", 2), [1, [2]], {"k": 0}, True):
                with self.subTest((name, value)):
                    error = getattr(errors, name)(*[value for _ in arguments])
                    for argument in arguments:
                        self.assertIs(getattr(error, argument), value)

    def test_arguments_by_name(self):
        for name, _, arguments in LISTED:
            for value in (3, "x", None, (1, "a", 2), [1, [2]], {"k": 0}, True):
                with self.subTest((name, value)):
                    error = getattr(errors, name)(**{argument: value for argument in arguments})
                    for argument in arguments:
                        self.assertIs(getattr(error, argument), value)

    def test_the_argument_is_needed_and_has_only_its_name(self):
        for name, _, arguments in LISTED:
            if arguments:
                with self.subTest(name):
                    with self.assertRaises(TypeError):
                        getattr(errors, name)()
                    with self.assertRaises(TypeError):
                        getattr(errors, name)(other=1)

    def test_each_can_be_raised_and_caught_by_its_base(self):
        for name, base, arguments in LISTED:
            with self.subTest(name):
                with self.assertRaises(base) as caught:
                    raise getattr(errors, name)(*[7 for _ in arguments])
                self.assertIs(type(caught.exception), getattr(errors, name))

    def test_two_errors_keep_their_own_values(self):
        one, two = errors.LimitExceeded(3), errors.LimitExceeded(6)
        self.assertEqual((one.limit, two.limit), (3, 6))


if __name__ == "__main__":
    unittest.main()
