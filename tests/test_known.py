import itertools
import unittest

from groupcall.known import Known
from groupcall.sets import hands_of, set_of

SIXTY = 10 ** 60 - 1
ALL = (1 << 63) - 1


def table(hands, rows):
    known = Known(set_of(hands))
    for hand, counts in rows.items():
        known.learn(hand, counts)
    return known


def rows_of(known, hands):
    return [known.row_of(hand) for hand in hands]


class Learning(unittest.TestCase):
    def test_rows_are_empty_at_first(self):
        for hands in (0, 1, 5, 1 << 62, ALL):
            known = Known(hands)
            self.assertEqual(rows_of(known, range(63)), [{}] * 63)
            self.assertEqual(known.listed(), ())

    def test_a_row_is_joined_of_several_learnings(self):
        known = Known(5)
        known.learn(2, {0: 3, 2: 1})
        self.assertEqual(known.row_of(2), {0: 3, 2: 1})
        known.learn(2, {0: 1, 2: 4})
        self.assertEqual(known.row_of(2), {0: 3, 2: 4})
        known.learn(2, {62: SIXTY})
        self.assertEqual(known.row_of(2), {0: 3, 2: 4, 62: SIXTY})
        known.learn(2, {})
        self.assertEqual(known.row_of(2), {0: 3, 2: 4, 62: SIXTY})
        self.assertEqual(known.row_of(0), {})

    def test_whatever_order_it_is_learnt_in(self):
        learnt = [(0, {0: 1, 2: 5}), (0, {0: 4, 2: 2}), (2, {1: 1}), (2, {0: 9}), (7, {7: 1})]
        for some in itertools.permutations(learnt):
            known = Known(5)
            for hand, counts in some:
                known.learn(hand, counts)
            self.assertEqual(rows_of(known, [0, 2, 7]), [{0: 4, 2: 5}, {0: 9, 1: 1}, {}])

    def test_a_hand_that_is_not_in_the_set_changes_nothing(self):
        known = table([0, 2], {0: {0: 1}, 2: {0: 2}})
        for hand in (1, 3, 62, 63, 64):
            known.learn(hand, {0: 9, 1: 9})
            self.assertEqual(known.row_of(hand), {})
        self.assertEqual(rows_of(known, [0, 2]), [{0: 1}, {0: 2}])
        self.assertEqual(known.floor(), {0: 1})
        self.assertEqual(known.listed(), ((0, ((0, 1),)), (2, ((0, 2),))))
        self.assertEqual(known.reach((1, 1, 1)), 0)

    def test_counts_of_callers_outside_the_set_count(self):
        known = table([0, 2], {0: {5: 1}, 2: {5: 2}})
        self.assertEqual(known.floor(), {5: 1})
        self.assertEqual(known.reach((1, 5, 2)), 1)

    def test_counts_with_noughts(self):
        known = Known(5)
        counts = {0: 0, 1: 2, 2: 0}
        known.learn(0, counts)
        self.assertEqual(known.row_of(0), {1: 2})
        known.learn(0, {1: 0})
        self.assertEqual(known.row_of(0), {1: 2})
        known.learn(2, {0: 0})
        self.assertEqual(known.row_of(2), {})
        self.assertEqual(known.listed(), ((0, ((1, 2),)),))
        self.assertEqual(counts, {0: 0, 1: 2, 2: 0})

    def test_what_is_done_behind_the_call_changes_nothing(self):
        known = Known(5)
        counts = {0: 1}
        known.learn(0, counts)
        counts[0] = 9
        counts[3] = 9
        self.assertEqual(known.row_of(0), {0: 1})

    def test_told_rows_are_the_askers_own(self):
        known = table([0, 2], {0: {0: 1}, 2: {0: 1}})
        for hand in (0, 2, 3):
            told = known.row_of(hand)
            told[0] = 9
            told[7] = 9
        floor = known.floor()
        floor[0] = 9
        floor[7] = 9
        self.assertEqual(rows_of(known, [0, 2, 3]), [{0: 1}, {0: 1}, {}])
        self.assertEqual(known.floor(), {0: 1})

    def test_two_tables_are_two(self):
        one, other = Known(5), Known(5)
        one.learn(0, {0: 1})
        self.assertEqual(other.row_of(0), {})


class Floor(unittest.TestCase):
    def test_ahead_of_the_first_learning(self):
        for hands in (0, 1, 5, ALL):
            self.assertEqual(Known(hands).floor(), {})

    def test_what_every_hand_has(self):
        known = table([0, 2, 62], {0: {0: 3, 2: 5, 62: 1}, 2: {0: 2, 2: 9, 62: 4}, 62: {0: 7, 2: 4, 62: 2}})
        self.assertEqual(known.floor(), {0: 2, 2: 4, 62: 1})
        known.learn(2, {0: 3})
        self.assertEqual(known.floor(), {0: 3, 2: 4, 62: 1})

    def test_a_hand_with_an_empty_row(self):
        known = table([0, 2, 62], {0: {0: 3}, 2: {0: 2}})
        self.assertEqual(known.floor(), {})
        known.learn(62, {0: 1})
        self.assertEqual(known.floor(), {0: 1})

    def test_no_nought_is_told(self):
        known = table([0, 2], {0: {0: 3, 2: 1}, 2: {0: 2, 5: 1}})
        self.assertEqual(known.floor(), {0: 2})

    def test_of_a_set_of_one_hand(self):
        known = table([4], {4: {0: 3, 4: 1}, 0: {0: 1}})
        self.assertEqual(known.floor(), {0: 3, 4: 1})


class ReachAndSure(unittest.TestCase):
    def check_sure(self, known, places, answer):
        for some in (list(places), tuple(places)):
            with self.subTest(some):
                told = known.sure(some)
                self.assertIs(type(told), int)
                self.assertEqual(told, answer)
                self.assertEqual(list(some), list(places))

    def test_reached_by_as_many_as_have_a_row_that_covers_it(self):
        known = table([0, 2, 5, 62], {0: {4: 3}, 2: {4: 2}, 5: {4: 1, 0: 9}})
        self.assertEqual([known.reach((1, 4, count)) for count in (1, 2, 3, 4)], [3, 2, 1, 0])
        self.assertEqual([known.reach((1, 0, count)) for count in (9, 10)], [1, 0])
        self.assertEqual(known.reach((9, 4, 1)), 3)
        self.assertEqual(known.reach((1, 7, 1)), 0)
        self.assertIs(type(known.reach((1, 4, 1))), int)

    def test_nothing_is_reached_or_sure_at_first(self):
        for hands in (0, 1, 5, ALL):
            self.assertEqual(Known(hands).reach((1, 0, 1)), 0)
            self.check_sure(Known(hands), [(1, 0, 1)], 0)
            self.check_sure(Known(hands), [], 0)

    def test_just_half_is_not_enough(self):
        for size in (2, 4, 6):
            hands = list(range(size))
            half = table(hands, {hand: {0: 1} for hand in hands[:size // 2]})
            self.assertEqual(half.reach((1, 0, 1)), size // 2)
            self.check_sure(half, [(1, 0, 1)], 0)
            half.learn(size - 1, {0: 1})
            self.assertEqual(half.reach((1, 0, 1)), size // 2 + 1)
            self.check_sure(half, [(1, 0, 1)], 1)

    def test_of_odd_many_hands(self):
        for size in (1, 3, 5, 7):
            hands = list(range(10, 10 + size))
            known = table(hands, {hand: {0: 1} for hand in hands[:size // 2]})
            self.check_sure(known, [(1, 0, 1)], 0)
            known.learn(hands[-1], {0: 1})
            self.check_sure(known, [(1, 0, 1)], 1)

    def test_the_first_that_is_not_reached_ends_them(self):
        known = table([0, 1, 2], {0: {0: 2, 1: 1, 2: 1}, 1: {0: 2, 2: 1}})
        self.check_sure(known, [(1, 0, 1), (1, 0, 2), (1, 2, 1)], 3)
        self.check_sure(known, [(1, 0, 1), (1, 1, 1), (1, 0, 2), (1, 2, 1)], 1)
        self.check_sure(known, [(1, 1, 1), (1, 0, 1), (1, 0, 2)], 0)
        self.check_sure(known, [(1, 0, 1), (1, 0, 2), (1, 0, 3)], 2)

    def test_different_halves_for_each_name(self):
        known = table([0, 1, 2], {0: {0: 1, 1: 1}, 1: {1: 1, 2: 1}, 2: {0: 1, 2: 1}})
        self.check_sure(known, [(1, 0, 1), (1, 1, 1), (1, 2, 1)], 3)

    def test_asking_changes_nothing(self):
        known = table([0, 2], {0: {0: 1}})
        known.reach((1, 5, 1))
        known.sure([(1, 0, 1), (1, 5, 1)])
        known.floor()
        self.assertEqual(known.listed(), ((0, ((0, 1),)),))


class ListedAndMerged(unittest.TestCase):
    def test_rows_are_packed_hands_rising_empty_ones_left_out(self):
        known = table([62, 0, 5, 9], {62: {5: 1, 0: 2}, 5: {62: SIXTY}, 9: {1: 0}})
        self.assertEqual(known.listed(), ((5, ((62, SIXTY),)), (62, ((0, 2), (5, 1)))))
        known.learn(0, {0: 1})
        self.assertEqual(known.listed(), ((0, ((0, 1),)), (5, ((62, SIXTY),)), (62, ((0, 2), (5, 1)))))

    def test_it_is_tuples_throughout(self):
        told = table([0, 2], {0: {0: 1, 2: 4}, 2: {2: 2}}).listed()
        self.assertIs(type(told), tuple)
        for pair in told:
            self.assertIs(type(pair), tuple)
            self.assertIs(type(pair[1]), tuple)
            self.assertTrue(all(type(part) is tuple for part in pair[1]))

    def test_merging_learns_each_pair(self):
        known = table([0, 2], {0: {0: 3, 2: 1}})
        known.merge(((0, ((0, 1), (2, 4))), (2, ((5, 1),))))
        self.assertEqual(rows_of(known, [0, 2]), [{0: 3, 2: 4}, {5: 1}])
        known.merge(())
        self.assertEqual(rows_of(known, [0, 2]), [{0: 3, 2: 4}, {5: 1}])

    def test_merged_into_an_empty_one_it_is_alike(self):
        known = table([0, 2, 62], {62: {5: 1, 0: 2}, 2: {62: SIXTY}})
        other = Known(set_of([0, 2, 62]))
        other.merge(known.listed())
        self.assertEqual(other.listed(), known.listed())
        self.assertEqual(rows_of(other, range(63)), rows_of(known, range(63)))

    def test_twice_and_in_another_order(self):
        lists = [((0, ((0, 1), (2, 4))), (2, ((5, 1),))), ((0, ((0, 3),)),), ((2, ((0, 2), (5, 2))),)]
        ends = []
        for some in list(itertools.permutations(lists)) + [lists + lists[::-1]]:
            known = Known(5)
            for listed in some:
                known.merge(listed)
                known.merge(listed)
            ends.append(rows_of(known, [0, 2]))
        self.assertEqual(ends, [[{0: 3, 2: 4}, {0: 2, 5: 2}]] * 7)

    def test_of_a_hand_beyond_the_set(self):
        known = Known(5)
        known.merge(((0, ((0, 1),)), (1, ((0, 7),)), (62, ((0, 7),))))
        self.assertEqual(rows_of(known, [0, 1, 2, 62]), [{0: 1}, {}, {}, {}])
        self.assertEqual(known.listed(), ((0, ((0, 1),)),))

    def test_what_was_listed_stays_as_it_was(self):
        known = table([0, 2], {0: {0: 1}})
        told = known.listed()
        known.learn(0, {0: 5})
        known.learn(2, {0: 5})
        self.assertEqual(told, ((0, ((0, 1),)),))

    def test_all_hands(self):
        known = Known(ALL)
        for hand in reversed(hands_of(ALL)):
            known.learn(hand, {hand: hand + 1, 0: 1})
        self.assertEqual([pair[0] for pair in known.listed()], list(range(63)))
        self.assertEqual(known.floor(), {0: 1})


if __name__ == "__main__":
    unittest.main()
