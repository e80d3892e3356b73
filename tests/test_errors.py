import unittest

from groupcall import errors
from groupcall.errors import GroupError, Held, Stopped

NAMES = ["NoHand", "NoHands", "NoKind", "NoWord", "NoCall", "NotIn", "IsIn", "Stopped", "Held", "NoRow", "NoLetter"]
MADE_WITH = {"Stopped": ((3, 1),), "Held": (8, 5)}


def refusal(name):
    return getattr(errors, name)


class Refusals(unittest.TestCase):
    def test_group_error_stands_straight_under_value_error(self):
        self.assertEqual(GroupError.__bases__, (ValueError,))

    def test_each_refusal_stands_straight_under_group_error(self):
        for name in NAMES:
            with self.subTest(name):
                self.assertEqual(refusal(name).__name__, name)
                self.assertEqual(refusal(name).__bases__, (GroupError,))

    def test_no_refusal_stands_under_another_one(self):
        for one in NAMES:
            for other in NAMES:
                with self.subTest(one=one, other=other):
                    self.assertEqual(issubclass(refusal(one), refusal(other)), one == other)

    def test_each_refusal_is_taken_by_its_own_name_and_by_the_names_above(self):
        for name in NAMES:
            for taken_as in (refusal(name), GroupError, ValueError):
                with self.subTest(name=name, taken_as=taken_as), self.assertRaises(taken_as):
                    raise refusal(name)(*MADE_WITH.get(name, ("words",)))

    def test_a_refusal_is_not_taken_by_another_ones_name(self):
        for name in NAMES:
            others = tuple(refusal(other) for other in NAMES if other != name)
            with self.subTest(name), self.assertRaises(refusal(name)):
                try:
                    raise refusal(name)(*MADE_WITH.get(name, ()))
                except others:
                    pass


class Values(unittest.TestCase):
    def test_stopped_has_its_ballot(self):
        self.assertEqual(Stopped((3, 1)).ballot, (3, 1))

    def test_held_has_many_and_room(self):
        held = Held(8, 5)
        self.assertEqual((held.many, held.room), (8, 5))

    def test_each_object_has_its_own_values(self):
        stops = [Stopped((1, 0)), Stopped((2, 62))]
        helds = [Held(1, 2), Held(60, 61)]
        self.assertEqual([stop.ballot for stop in stops], [(1, 0), (2, 62)])
        self.assertEqual([(held.many, held.room) for held in helds], [(1, 2), (60, 61)])

    def test_the_values_are_there_where_it_is_taken(self):
        with self.assertRaises(GroupError) as caught:
            raise Stopped((10 ** 9, 4))
        self.assertEqual(caught.exception.ballot, (10 ** 9, 4))
        with self.assertRaises(GroupError) as caught:
            raise Held(0, 1)
        self.assertEqual((caught.exception.many, caught.exception.room), (0, 1))


if __name__ == "__main__":
    unittest.main()
