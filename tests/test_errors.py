import unittest

from movesatonce import errors
from movesatonce.errors import MoveError

DIRECT = ("BadLead", "BadSpare", "BadMove", "NoWay", "BadWord", "BadHouse", "BadCall", "BadText")
BEARERS = {"BadMove": "number", "BadText": "place"}


def made(name):
    """An object of the error class of that name, as a caller would make one."""
    kind = getattr(errors, name)
    return kind(7) if name in BEARERS else kind("why")


class TestErrors(unittest.TestCase):
    def test_any_refusal_is_a_value_error(self):
        self.assertEqual(MoveError.__bases__, (ValueError,))

    def test_each_refusal_stands_directly_under_move_error(self):
        for name in DIRECT:
            with self.subTest(name):
                self.assertEqual(getattr(errors, name).__bases__, (MoveError,))

    def test_each_is_defined_in_errors(self):
        for name in ("MoveError", *DIRECT):
            with self.subTest(name):
                kind = getattr(errors, name)
                self.assertEqual(kind.__module__, "movesatonce.errors")
                self.assertEqual(kind.__name__, name)

    def test_none_is_caught_as_another_one(self):
        for name in DIRECT:
            for other in DIRECT:
                with self.subTest(name=name, other=other):
                    caught = isinstance(made(name), getattr(errors, other))
                    self.assertEqual(caught, name == other)

    def test_values_are_set_when_the_object_is_created(self):
        for name, value in BEARERS.items():
            for told in (0, 1, 12):
                with self.subTest(name=name, told=told):
                    refusal = getattr(errors, name)(told)
                    self.assertEqual(vars(refusal), {value: told})

    def test_the_others_bear_no_values(self):
        for name in DIRECT:
            if name not in BEARERS:
                with self.subTest(name):
                    self.assertEqual(vars(made(name)), {})

    def test_each_has_a_message(self):
        for name in DIRECT:
            with self.subTest(name):
                self.assertNotEqual(str(made(name)), "")


if __name__ == "__main__":
    unittest.main()
