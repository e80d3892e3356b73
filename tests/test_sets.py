import unittest

from groupcall.sets import hands_of, has, least, many, more_than_half, set_of

ALL = (1 << 63) - 1

# Sets with their hands, rising: the edges and some ordinary ones.
SETS = [
    (0, []),
    (1, [0]),
    (2, [1]),
    (1 << 62, [62]),
    (5, [0, 2]),
    (6, [1, 2]),
    ((1 << 62) | 1, [0, 62]),
    (0b1011010, [1, 3, 4, 6]),
    (0x5555555555555555, list(range(0, 63, 2))),
    (ALL - 1, list(range(1, 63))),
    (ALL - (1 << 62), list(range(62))),
    (ALL, list(range(63))),
]


class WhetherAHandIsIn(unittest.TestCase):
    def test_of_each_set_each_hand(self):
        for hands, rising in SETS:
            for hand in range(63):
                with self.subTest(hands=hands, hand=hand):
                    self.assertIs(has(hands, hand), hand in rising)

    def test_a_hand_beyond_the_bounds_is_in_no_set_and_not_refused(self):
        for hand in (-1, 63, 64, 1000):
            with self.subTest(hand):
                self.assertIs(has(ALL, hand), False)


class Hands(unittest.TestCase):
    def test_they_are_a_list_rising(self):
        for hands, rising in SETS:
            with self.subTest(hands):
                self.assertIsInstance(hands_of(hands), list)
                self.assertEqual(hands_of(hands), rising)

    def test_a_told_list_that_is_changed_changes_nothing_told_later(self):
        for hands, rising in SETS:
            with self.subTest(hands):
                told = hands_of(hands)
                told.append(7)
                told.reverse()
                self.assertEqual(hands_of(hands), rising)
                self.assertEqual(many(hands), len(rising))

    def test_two_told_lists_are_two(self):
        self.assertIsNot(hands_of(5), hands_of(5))
        self.assertIsNot(hands_of(0), hands_of(0))

    def test_a_set_somewhat_beyond_the_bound_is_not_refused(self):
        self.assertEqual(hands_of(1 << 63 | 2), [1, 63])


class HowMany(unittest.TestCase):
    def test_of_each_set(self):
        for hands, rising in SETS:
            with self.subTest(hands):
                self.assertIs(type(many(hands)), int)
                self.assertEqual(many(hands), len(rising))


class Least(unittest.TestCase):
    def test_of_none_it_is_none(self):
        self.assertIsNone(least(0))

    def test_of_each_set_with_hands(self):
        for hands, rising in SETS[1:]:
            with self.subTest(hands):
                self.assertIs(type(least(hands)), int)
                self.assertEqual(least(hands), rising[0])


class SetOfHands(unittest.TestCase):
    def test_of_hands_rising(self):
        for hands, rising in SETS:
            with self.subTest(hands):
                self.assertIs(type(set_of(rising)), int)
                self.assertEqual(set_of(rising), hands)

    def test_of_any_order(self):
        self.assertEqual(set_of([2, 0]), 5)
        self.assertEqual(set_of([62, 3, 40, 0]), 1 << 62 | 8 | 1 << 40 | 1)
        for hands, rising in SETS:
            with self.subTest(hands):
                self.assertEqual(set_of(rising[::-1]), hands)
                self.assertEqual(set_of(rising[1::2] + rising[::2]), hands)

    def test_a_hand_that_comes_several_times_is_in_it_once(self):
        self.assertEqual(set_of([0, 0]), 1)
        self.assertEqual(set_of([1, 1, 1]), 2)
        self.assertEqual(set_of([62, 2, 62, 0, 2, 62]), 1 << 62 | 5)
        for hands, rising in SETS:
            with self.subTest(hands):
                self.assertEqual(set_of(rising + rising[::-1] + rising), hands)

    def test_the_list_handed_in_stays(self):
        some = [4, 1, 4, 62, 0]
        set_of(some)
        self.assertEqual(some, [4, 1, 4, 62, 0])

    def test_what_is_done_to_the_list_behind_the_call_changes_nothing(self):
        some = [2, 0]
        hands = set_of(some)
        some.append(1)
        self.assertEqual(hands, 5)

    def test_a_number_beyond_the_bounds_is_not_refused(self):
        self.assertEqual(set_of([63, 1]), 1 << 63 | 2)
        self.assertEqual(set_of([-1, 1]), 2)


class MoreThanHalf(unittest.TestCase):
    def test_never_of_no_hands(self):
        for some in (0, 1, 5, ALL):
            with self.subTest(some):
                self.assertIs(more_than_half(some, 0), False)

    def test_no_hands_are_never_more_than_half(self):
        for hands, rising in SETS:
            with self.subTest(hands):
                self.assertIs(more_than_half(0, hands), False)

    def test_of_one_hand_that_one(self):
        self.assertIs(more_than_half(1, 1), True)
        self.assertIs(more_than_half(1 << 62, 1 << 62), True)
        self.assertIs(more_than_half(2, 1), False)

    def test_of_two_hands_only_both(self):
        for hands in (5, 3, 1 << 62 | 1):
            one, other = hands_of(hands)
            with self.subTest(hands):
                self.assertIs(more_than_half(hands, hands), True)
                self.assertIs(more_than_half(1 << one, hands), False)
                self.assertIs(more_than_half(1 << other, hands), False)

    def test_of_three_hands_two(self):
        hands = set_of([1, 4, 62])
        self.assertIs(more_than_half(set_of([4]), hands), False)
        self.assertIs(more_than_half(set_of([1, 62]), hands), True)
        self.assertIs(more_than_half(hands, hands), True)

    def test_just_half_is_not_more_than_half(self):
        for size in (2, 4, 6, 62):
            hands = set_of(list(range(size)))
            with self.subTest(size):
                self.assertIs(more_than_half(set_of(list(range(size // 2))), hands), False)
                self.assertIs(more_than_half(set_of(list(range(size // 2 + 1))), hands), True)

    def test_of_all_hands(self):
        self.assertIs(more_than_half(set_of(list(range(31))), ALL), False)
        self.assertIs(more_than_half(set_of(list(range(32))), ALL), True)
        self.assertIs(more_than_half(set_of(list(range(31, 63))), ALL), True)
        self.assertIs(more_than_half(ALL, ALL), True)

    def test_hands_that_the_second_set_lacks_do_not_count(self):
        self.assertIs(more_than_half(ALL - 7, 7), False)
        self.assertIs(more_than_half(set_of([0, 10, 11, 12]), 7), False)
        self.assertIs(more_than_half(set_of([0, 2, 10, 11, 12]), 7), True)
        self.assertIs(more_than_half(ALL, 7), True)


if __name__ == "__main__":
    unittest.main()
