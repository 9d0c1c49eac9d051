"""The refusals: the interface's section "crossgrants/errors.py", and point [2]."""

import unittest

from crossgrants import errors

BASES = {
    "BadSize": ValueError,
    "BadShares": ValueError,
    "BadRow": ValueError,
    "BadDeed": TypeError,
    "NoInlet": IndexError,
    "NoOutlet": IndexError,
    "NoAsk": KeyError,
    "NoCell": KeyError,
    "TooMuch": ArithmeticError,
    "TooMany": OverflowError,
    "Already": RuntimeError,
    "Busy": RuntimeError,
}

THINGS = [
    0, 1, 7, -1, 300, 10**30,
    "", "inlets", "come 1 2", "100",
    (), (0,), (2, 3), ("inlet", 1, 4), ("wide", 0, (1, 2)),
    None, True, False,
]


def raised(error):
    raise error


class ErrorsTest(unittest.TestCase):
    def classes(self):
        return [getattr(errors, name) for name in BASES]

    def test_each_has_its_one_base(self):
        for name, base in BASES.items():
            with self.subTest(name):
                self.assertEqual(getattr(errors, name).__bases__, (base,))
                self.assertEqual(getattr(errors, name).__name__, name)

    def test_none_stands_under_another(self):
        for one in self.classes():
            for other in self.classes():
                with self.subTest(one=one.__name__, other=other.__name__):
                    self.assertEqual(issubclass(one, other), one is other)

    def test_what_is_the_thing_it_was_made_with(self):
        for cls in self.classes():
            for thing in THINGS:
                with self.subTest(cls=cls.__name__, thing=thing):
                    told = cls(thing).what
                    self.assertEqual(told, thing)
                    self.assertIs(type(told), type(thing))

    def test_what_is_the_one_field(self):
        for cls in self.classes():
            with self.subTest(cls.__name__):
                self.assertEqual(vars(cls((1, 2))), {"what": (1, 2)})

    def test_what_is_each_ones_own(self):
        for cls in self.classes():
            with self.subTest(cls.__name__):
                one, other = cls(1), cls("two")
                self.assertEqual((one.what, other.what), (1, "two"))

    def test_caught_by_its_own_name_and_by_its_base(self):
        for name, base in BASES.items():
            for caught in (getattr(errors, name), base):
                with self.subTest(name=name, caught=caught.__name__):
                    with self.assertRaises(caught) as held:
                        raised(getattr(errors, name)((0, 5)))
                    self.assertEqual(held.exception.what, (0, 5))

    def test_a_refusal_can_be_shown(self):
        for cls in self.classes():
            for thing in THINGS:
                with self.subTest(cls=cls.__name__, thing=thing):
                    self.assertIsInstance(str(cls(thing)), str)
                    self.assertIsInstance(repr(cls(thing)), str)


if __name__ == "__main__":
    unittest.main()
