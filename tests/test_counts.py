import copy
import unittest

from groupcall.counts import common, count_of, covers, covers_name, joined, packed, unpacked

SIXTY = 10 ** 60 - 1


class CountOf(unittest.TestCase):
    def test_a_hand_that_is_there_has_its_count(self):
        counts = {0: 3, 62: SIXTY, 5: 1}
        self.assertEqual([count_of(counts, hand) for hand in (0, 62, 5)], [3, SIXTY, 1])

    def test_a_hand_that_is_not_there_has_0(self):
        for counts in ({}, {1: 4}, {1: 4, 62: 2}):
            with self.subTest(counts):
                self.assertEqual(count_of(counts, 0), 0)
                self.assertIs(type(count_of(counts, 0)), int)

    def test_a_nought_that_is_handed_in_is_0(self):
        self.assertEqual(count_of({4: 0}, 4), 0)

    def test_asking_for_a_hand_puts_nothing_in(self):
        counts = {1: 4, 2: 0}
        count_of(counts, 0)
        self.assertEqual(counts, {1: 4, 2: 0})


class Covers(unittest.TestCase):
    def check(self, one, other, answer):
        with self.subTest(one=one, other=other):
            kept = copy.deepcopy((one, other))
            self.assertIs(covers(one, other), answer)
            self.assertEqual((one, other), kept)

    def test_counts_cover_themselves_and_none(self):
        for counts in ({}, {0: 1}, {0: 2, 62: SIXTY}, {3: 0}):
            self.check(counts, counts, True)
            self.check(counts, dict(counts), True)
            self.check(counts, {}, True)

    def test_of_one_hand(self):
        self.check({0: 2}, {0: 1}, True)
        self.check({0: 2}, {0: 2}, True)
        self.check({0: 2}, {0: 3}, False)

    def test_a_single_hand_with_less_is_enough_against_it(self):
        self.check({0: 5, 1: 5, 2: 5}, {0: 5, 1: 5, 2: 5}, True)
        self.check({0: 4, 1: 5, 2: 5}, {0: 5, 1: 5, 2: 5}, False)
        self.check({0: 5, 1: 5, 2: 4}, {0: 5, 1: 5, 2: 5}, False)
        self.check({0: 9, 1: 1}, {0: 1, 1: 9}, False)

    def test_hands_that_only_one_of_the_two_has(self):
        self.check({0: 1, 62: 1}, {0: 1}, True)
        self.check({0: 1}, {0: 1, 62: 1}, False)
        self.check({0: 1}, {62: 1}, False)
        self.check({}, {62: 1}, False)

    def test_noughts_are_as_if_not_there(self):
        self.check({}, {0: 0, 62: 0}, True)
        self.check({0: 0}, {}, True)
        self.check({0: 0}, {0: 1}, False)
        self.check({1: 1}, {1: 1, 0: 0}, True)

    def test_numbers_of_sixty_figures(self):
        self.check({7: SIXTY}, {7: SIXTY - 1}, True)
        self.check({7: SIXTY}, {7: SIXTY}, True)
        self.check({7: SIXTY - 1}, {7: SIXTY}, False)


class Joined(unittest.TestCase):
    def check(self, one, other, answer):
        with self.subTest(one=one, other=other):
            kept = copy.deepcopy((one, other))
            for told in (joined(one, other), joined(other, one)):
                self.assertEqual(told, answer)
                self.assertIsNot(told, one)
                self.assertIsNot(told, other)
            self.assertEqual((one, other), kept)

    def test_the_greater_of_both(self):
        self.check({0: 1, 1: 5}, {0: 3, 1: 2}, {0: 3, 1: 5})
        self.check({0: 4}, {0: 4}, {0: 4})

    def test_different_hands(self):
        self.check({0: 1}, {62: 2}, {0: 1, 62: 2})
        self.check({0: 1, 5: 3}, {5: 4, 7: 2}, {0: 1, 5: 4, 7: 2})

    def test_with_none(self):
        self.check({}, {}, {})
        self.check({3: 2}, {}, {3: 2})

    def test_no_nought_is_told(self):
        self.check({0: 0}, {}, {})
        self.check({0: 0, 1: 0}, {1: 0, 2: 0}, {})
        self.check({0: 0, 1: 2}, {0: 1, 3: 0}, {0: 1, 1: 2})

    def test_numbers_of_sixty_figures(self):
        self.check({0: SIXTY, 1: SIXTY - 1}, {0: SIXTY - 1, 1: SIXTY}, {0: SIXTY, 1: SIXTY})

    def test_the_dict_told_is_the_askers_own(self):
        one, other = {0: 1}, {1: 2}
        told = joined(one, other)
        told[0] = 9
        told[5] = 9
        self.assertEqual((one, other), ({0: 1}, {1: 2}))
        self.assertEqual(joined(one, other), {0: 1, 1: 2})

    def test_what_is_done_behind_the_call_changes_nothing(self):
        one, other = {0: 1}, {}
        told = joined(one, other)
        one[0] = 7
        other[1] = 7
        self.assertEqual(told, {0: 1})


class Common(unittest.TestCase):
    def check(self, some, answer):
        with self.subTest(some):
            kept = copy.deepcopy(some)
            for told in (common(some), common(some[::-1])):
                self.assertEqual(told, answer)
                for counts in some:
                    self.assertIsNot(told, counts)
            self.assertEqual(some, kept)

    def test_of_the_empty_list(self):
        self.check([], {})

    def test_of_one_alone(self):
        self.check([{}], {})
        self.check([{0: 2, 62: 5}], {0: 2, 62: 5})
        self.check([{0: 2, 62: 0}], {0: 2})

    def test_of_two(self):
        self.check([{0: 2, 1: 5}, {0: 3, 1: 4}], {0: 2, 1: 4})
        self.check([{0: 2}, {0: 2}], {0: 2})

    def test_of_three(self):
        self.check([{0: 2, 1: 5}, {0: 3, 1: 4}, {0: 9, 1: 9}], {0: 2, 1: 4})
        self.check([{0: 7, 1: 5}, {0: 3, 1: 4}, {0: 5, 1: 1}], {0: 3, 1: 1})

    def test_a_hand_that_one_of_them_lacks_has_0(self):
        self.check([{0: 1}, {62: 2}], {})
        self.check([{0: 1, 5: 3}, {5: 4, 7: 2}], {5: 3})
        self.check([{0: 1, 5: 3}, {0: 2, 5: 4}, {5: 1}], {5: 1})
        self.check([{0: 1}, {0: 1}, {}], {})

    def test_no_nought_is_told(self):
        self.check([{0: 0}, {0: 3}], {})
        self.check([{0: 0, 1: 2}, {0: 0, 1: 3}], {1: 2})

    def test_numbers_of_sixty_figures(self):
        self.check([{0: SIXTY}, {0: SIXTY - 1}, {0: SIXTY}], {0: SIXTY - 1})

    def test_the_dict_told_is_the_askers_own(self):
        some = [{0: 1}]
        told = common(some)
        told[0] = 9
        common([])[3] = 1
        self.assertEqual(some, [{0: 1}])
        self.assertEqual(common(some), {0: 1})
        self.assertEqual(common([]), {})

    def test_what_is_done_behind_the_call_changes_nothing(self):
        some = [{0: 2}, {0: 3}]
        told = common(some)
        some[0][0] = 1
        some.append({})
        self.assertEqual(told, {0: 2})


class Packed(unittest.TestCase):
    def check(self, counts, answer):
        with self.subTest(counts):
            before = list(counts.items())
            told = packed(counts)
            self.assertEqual(told, answer)
            self.assertIs(type(told), tuple)
            self.assertEqual([type(pair) for pair in told], [tuple] * len(told))
            self.assertEqual(list(counts.items()), before)

    def test_of_nothing(self):
        self.check({}, ())

    def test_hands_rise_in_whatever_order_they_were_put_in(self):
        answer = ((0, 9), (3, 2), (10, 1), (62, 5))
        self.check({0: 9, 3: 2, 10: 1, 62: 5}, answer)
        self.check({62: 5, 10: 1, 3: 2, 0: 9}, answer)
        self.check({10: 1, 0: 9, 62: 5, 3: 2}, answer)

    def test_noughts_are_left_out(self):
        self.check({0: 0}, ())
        self.check({5: 0, 4: 1, 0: 0}, ((4, 1),))

    def test_numbers_of_sixty_figures(self):
        self.check({1: SIXTY, 0: 1}, ((0, 1), (1, SIXTY)))

    def test_what_is_done_behind_the_call_changes_nothing(self):
        counts = {0: 1}
        told = packed(counts)
        counts[0] = 2
        counts[1] = 2
        self.assertEqual(told, ((0, 1),))


class Unpacked(unittest.TestCase):
    def test_of_nothing(self):
        self.assertEqual(unpacked(()), {})

    def test_of_pairs(self):
        self.assertEqual(unpacked(((0, 2),)), {0: 2})
        self.assertEqual(unpacked(((0, 2), (4, 1), (62, SIXTY))), {0: 2, 4: 1, 62: SIXTY})

    def test_pairs_with_a_nought(self):
        self.assertEqual(unpacked(((0, 0),)), {})
        self.assertEqual(unpacked(((0, 0), (4, 1), (62, 0))), {4: 1})

    def test_packed_again_alike(self):
        for pairs in ((), ((0, 1),), ((0, 2), (4, 1), (62, SIXTY)), ((61, 3), (62, 3))):
            with self.subTest(pairs):
                self.assertEqual(packed(unpacked(pairs)), pairs)

    def test_unpacked_again_alike(self):
        for counts in ({}, {62: 1}, {5: 2, 0: SIXTY, 3: 1}):
            with self.subTest(counts):
                told = unpacked(packed(counts))
                self.assertEqual(told, counts)
                self.assertIsNot(told, counts)

    def test_the_dict_told_is_the_askers_own(self):
        pairs = ((0, 2),)
        told = unpacked(pairs)
        told[0] = 7
        unpacked(())[1] = 1
        self.assertEqual(unpacked(pairs), {0: 2})
        self.assertEqual(unpacked(()), {})


class CoversName(unittest.TestCase):
    def check(self, counts, name, answer):
        with self.subTest(counts=counts, name=name):
            kept = dict(counts)
            self.assertIs(covers_name(counts, name), answer)
            self.assertEqual(counts, kept)

    def test_one_less_just_as_many_and_one_more(self):
        for caller in (0, 5, 62):
            self.check({caller: 2}, (1, caller, 3), False)
            self.check({caller: 3}, (1, caller, 3), True)
            self.check({caller: 4}, (1, caller, 3), True)

    def test_a_caller_that_is_not_there_has_0(self):
        self.check({}, (1, 0, 1), False)
        self.check({0: 0}, (1, 0, 1), False)
        self.check({0: 1}, (1, 0, 1), True)

    def test_other_hands_counts_do_not_count(self):
        self.check({1: 9, 2: 9}, (1, 0, 1), False)
        self.check({0: 1, 1: 9}, (1, 0, 2), False)
        self.check({0: 2, 1: 0}, (9, 0, 2), True)

    def test_the_number_is_not_looked_at(self):
        for number in (0, 1, 2, 3, 10 ** 18, SIXTY):
            self.check({2: 2, 1: 7}, (number, 2, 2), True)
            self.check({2: 2, 1: 7}, (number, 2, 3), False)

    def test_numbers_of_sixty_figures(self):
        self.check({4: SIXTY - 1}, (1, 4, SIXTY), False)
        self.check({4: SIXTY}, (1, 4, SIXTY), True)
        self.check({4: SIXTY}, (1, 4, SIXTY - 1), True)


if __name__ == "__main__":
    unittest.main()
