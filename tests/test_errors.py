"""The refusals [3]."""

import unittest

from mixbench import errors

NAMES = ["NoNumber", "NoText", "NoPart", "NoName", "Twice", "NoBus", "Ring", "NoBlock", "NoRow", "NoDeed"]
CLASSES = [getattr(errors, name) for name in NAMES]


def made(refusal):
    return refusal(["a"]) if refusal is errors.Ring else refusal("why")


class Classes(unittest.TestCase):
    def test_base_stands_under_value_error(self):
        self.assertTrue(issubclass(errors.MixError, ValueError))
        self.assertIsNot(errors.MixError, ValueError)

    def test_ten_classes_of_their_own(self):
        self.assertEqual(len(set(CLASSES)), 10)
        self.assertNotIn(errors.MixError, CLASSES)

    def test_each_stands_under_the_base(self):
        for refusal in CLASSES:
            with self.subTest(refusal=refusal.__name__):
                self.assertTrue(issubclass(refusal, errors.MixError))
                with self.assertRaises(errors.MixError):
                    raise made(refusal)

    def test_none_stands_under_another_one(self):
        for one in CLASSES:
            for other in CLASSES:
                if one is not other:
                    with self.subTest(one=one.__name__, other=other.__name__):
                        self.assertFalse(issubclass(one, other))


class RingField(unittest.TestCase):
    def test_holds_the_names_in_order(self):
        for names in (["a"], ["b", "a", "c"]):
            self.assertEqual(errors.Ring(names).ring, names)
            self.assertIs(type(errors.Ring(names).ring), list)

    def test_is_there_when_caught_as_the_base(self):
        with self.assertRaises(errors.MixError) as caught:
            raise errors.Ring(["main", "fx"])
        self.assertEqual(caught.exception.ring, ["main", "fx"])

    def test_later_changes_of_the_list_handed_in_change_nothing(self):
        names = ["a", "b"]
        refusal = errors.Ring(names)
        words = str(refusal)
        names.append("c")
        self.assertEqual(refusal.ring, ["a", "b"])
        self.assertEqual(str(refusal), words)

    def test_changes_of_the_field_leave_the_list_handed_in(self):
        names = ["a", "b"]
        errors.Ring(names).ring.append("c")
        self.assertEqual(names, ["a", "b"])


if __name__ == "__main__":
    unittest.main()
