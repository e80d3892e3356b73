import unittest

from groupcall.errors import Held, IsIn, NoHand, NoHands, NoKind, NotIn, NoWord, Stopped
from groupcall.hands import Hand
from groupcall.sets import hands_of, set_of

ABC = set_of([0, 1, 2])
AB = set_of([0, 1])
SIXTY = 10 ** 60 - 1


def group(first, others=(), number=1, room=8):
    return {hand: Hand(hand, set_of(first), number, room) for hand in sorted([*first, *others])}


def tell(hands, teller, hearer):
    return hands[hearer].hear(hands[teller].letter())


def go_round(hands, some=None):
    some = sorted(hands if some is None else some)
    for teller in some:
        for hearer in some:
            if teller != hearer:
                tell(hands, teller, hearer)


def go_rounds(hands, some=None):
    for _ in range(4):
        go_round(hands, some)


def state(hand):
    return (hand.events(), hand.standing(), hand.taken(), hand.kept(), hand.places(), hand.strays(), hand.stopped(),
            hand.book(), hand.letter())


def is_plain(value):
    if type(value) is tuple:
        return all(is_plain(part) for part in value)
    return value is None or type(value) in (int, str, bool)


def lists(hand):
    return [event for event in hand.events() if event[0] == "list"]


def renewed(hands, me, some=None, doubts=0):
    """The hand me suspects and renews, and rounds of some hands follow."""
    hands[me].suspect(doubts)
    hands[me].renew()
    go_rounds(hands, some)


class Refusing(unittest.TestCase):
    def refused(self, error, hand, deed, *handed):
        before = state(hand)
        with self.assertRaises(error) as caught:
            getattr(hand, deed)(*handed)
        self.assertIs(type(caught.exception), error)
        self.assertEqual(state(hand), before)
        return caught.exception


class Making(unittest.TestCase):
    def test_no_hand(self):
        for me in (-1, 63, 64, 10 ** 30, True, False, None, "0", (0,)):
            with self.assertRaises(NoHand):
                Hand(me, ABC)

    def test_no_hands(self):
        for hands in (0, -1, 1 << 63, 10 ** 30, True, None, "3", [0, 1]):
            with self.assertRaises(NoHands):
                Hand(0, hands)

    def test_no_hand_comes_first(self):
        with self.assertRaises(NoHand):
            Hand(63, 0)
        with self.assertRaises(NoHand):
            Hand(-1, -1, 0, 1)

    def test_the_edges(self):
        self.assertEqual(Hand(0, 1).standing(), (1, 1))
        self.assertEqual(Hand(62, 1 << 62).standing(), (1, 1 << 62))
        self.assertEqual(Hand(62, (1 << 63) - 1, 0, 1).standing(), (0, (1 << 63) - 1))
        self.assertIsNone(Hand(62, 1).standing())

    def test_in_the_first_list(self):
        hand = Hand(1, ABC)
        self.assertEqual(hand.events(), [("list", 1, ABC, 0, ABC)])
        self.assertEqual(hand.standing(), (1, ABC))
        self.assertEqual((hand.taken(), hand.kept(), hand.places(), hand.strays()), ({}, [], [], []))
        self.assertEqual((hand.stopped(), hand.book()), (None, ()))

    def test_with_a_first_number(self):
        for number in (0, 7, 10 ** 18):
            self.assertEqual(Hand(1, ABC, number).events(), [("list", number, ABC, 0, ABC)])
            self.assertEqual(Hand(1, ABC, number=number).standing(), (number, ABC))

    def test_outside_of_the_first_list(self):
        hand = Hand(5, ABC)
        self.assertEqual((hand.events(), hand.standing(), hand.stopped(), hand.book()), ([], None, None, ()))
        self.assertEqual((hand.taken(), hand.kept(), hand.places(), hand.strays()), ({}, [], [], []))


class Calling(Refusing):
    def test_the_name_is_told(self):
        hand = Hand(1, ABC, 7)
        self.assertEqual(hand.call("own", -5), (7, 1, 1))
        self.assertEqual(hand.call("heard", SIXTY), (7, 1, 2))
        self.assertEqual(hand.call("one", 0), (7, 1, 3))
        self.assertEqual(hand.taken(), {1: 2})
        self.assertEqual(hand.kept(), [(7, 1, 1), (7, 1, 2), (7, 1, 3)])
        self.assertEqual(hand.events()[1:], [("take", (7, 1, 1), "own", -5, (), "ready"),
                                             ("take", (7, 1, 2), "heard", SIXTY, ((1, 1),), "ready")])

    def test_in_no_list(self):
        hand = Hand(5, ABC)
        self.refused(NotIn, hand, "call", "own", 1)
        self.refused(NotIn, hand, "call", "other", True)

    def test_stopped(self):
        hand = Hand(1, ABC)
        hand.call("own", 1)
        hand.renew(3)
        self.assertEqual(self.refused(Stopped, hand, "call", "own", 1).ballot, (3, 1))
        self.assertEqual(self.refused(Stopped, hand, "call", "other", None).ballot, (3, 1))

    def test_stopped_by_anothers_ballot(self):
        hands = group([0, 1, 2])
        hands[2].renew(4)
        tell(hands, 2, 0)
        self.assertEqual(self.refused(Stopped, hands[0], "call", "one", 1).ballot, (4, 2))

    def test_stopped_comes_ahead_of_held(self):
        hand = Hand(1, ABC, 1, 1)
        hand.call("own", 1)
        hand.renew()
        self.refused(Stopped, hand, "call", "own", 1)

    def test_as_the_page_refuses(self):
        hand = Hand(1, ABC, 1, 2)
        self.refused(NoKind, hand, "call", "other", True)
        self.refused(NoWord, hand, "call", "own", True)
        self.refused(NoWord, hand, "call", "one", SIXTY + 1)
        hand.call("own", 1)
        hand.call("one", 2)
        error = self.refused(Held, hand, "call", "other", True)
        self.assertEqual((error.many, error.room), (2, 2))

    def test_the_room_is_eight_if_left_out(self):
        hand = Hand(1, ABC)
        for word in range(8):
            hand.call("own", word)
        error = self.refused(Held, hand, "call", "own", 8)
        self.assertEqual((error.many, error.room), (8, 8))

    def test_the_room_stays_through_the_lists(self):
        hands = group([0, 1], room=1)
        renewed(hands, 0)
        hands[0].call("own", 1)
        self.assertEqual(self.refused(Held, hands[0], "call", "own", 1).room, 1)
        hands = group([0], [1], room=3)
        hands[1].come()
        tell(hands, 1, 0)
        renewed(hands, 0)
        for word in range(3):
            hands[1].call("own", word)
        self.assertEqual(self.refused(Held, hands[1], "call", "own", 1).room, 3)

    def test_counts_begin_anew_in_each_list(self):
        hand = Hand(3, 8)
        self.assertEqual((hand.call("own", 1), hand.call("one", 1)), ((1, 3, 1), (1, 3, 2)))
        hand.renew()
        self.assertEqual(hand.call("heard", 1), (2, 3, 1))
        self.assertEqual(hand.taken(), {3: 1})


class Alone(unittest.TestCase):
    def test_it_is_in_the_next_list_at_once(self):
        hand = Hand(3, 8)
        self.assertEqual(hand.renew(), [("list", 2, 8, 8, 0)])
        self.assertEqual(hand.renew(5), [("list", 3, 8, 8, 0)])
        self.assertEqual((hand.standing(), hand.stopped()), ((3, 8), None))
        self.assertEqual(hand.events(), [("list", 1, 8, 0, 8), ("list", 2, 8, 8, 0), ("list", 3, 8, 8, 0)])

    def test_its_book(self):
        hand = Hand(3, 8, 0)
        hand.call("own", 5)
        hand.call("one", 6)
        self.assertEqual(hand.book(), ())
        hand.renew()
        self.assertEqual(hand.book(), ((0, 3, 2, "one", 6), (0, 3, 1, "own", 5)))
        hand.call("heard", 7)
        hand.renew()
        self.assertEqual(hand.book(), ((0, 3, 2, "one", 6), (0, 3, 1, "own", 5), (1, 3, 1, "heard", 7)))

    def test_it_stays_even_if_it_wants_to_leave(self):
        hand = Hand(3, 8)
        hand.leave()
        self.assertEqual(hand.renew(), [("list", 2, 8, 8, 0)])

    def test_with_one_that_wishes_to_come_in(self):
        hands = group([3], [5])
        hands[5].come()
        self.assertEqual(tell(hands, 5, 3), [])
        self.assertEqual(hands[3].renew(), [("list", 2, set_of([3, 5]), 8, 32)])
        self.assertEqual(tell(hands, 3, 5), [("list", 2, set_of([3, 5]), 8, 32)])


class Renewing(Refusing):
    def test_not_in(self):
        self.refused(NotIn, Hand(5, ABC), "renew")
        self.refused(NotIn, Hand(5, ABC), "renew", 3)

    def test_it_is_stopped_and_its_page_is_left_as_it_is(self):
        hands = group([0, 1])
        hands[0].call("own", 1)
        hands[1].call("own", 2)
        self.assertEqual(hands[0].renew(), [])
        self.assertEqual(hands[0].stopped(), (1, 0))
        self.assertEqual(tell(hands, 1, 0), [])
        self.assertEqual((hands[0].taken(), hands[0].kept()), ({0: 1}, [(1, 0, 1)]))

    def test_steps_of_ballots(self):
        hand = Hand(0, AB)
        hand.renew(7)
        self.assertEqual(hand.stopped(), (7, 0))
        hand.renew()
        self.assertEqual(hand.stopped(), (8, 0))
        hand.renew(more=10 ** 9)
        self.assertEqual(hand.stopped(), (10 ** 9 + 8, 0))

    def test_a_list_of_two_step_by_step(self):
        hands = group([0, 1])
        hands[0].call("own", 5)
        hands[1].call("one", 6)
        hands[0].renew()
        self.assertEqual(tell(hands, 0, 1), [("take", (1, 0, 1), "own", 5, (), "ready")])
        self.assertEqual(hands[1].stopped(), (1, 0))
        self.assertEqual(tell(hands, 1, 0), [])
        self.assertEqual(hands[0].standing(), (1, AB))
        new = [("take", (1, 1, 1), "one", 6, (), "cut"), ("list", 2, AB, AB, 0)]
        self.assertEqual(tell(hands, 0, 1), new)
        self.assertEqual((hands[1].standing(), hands[1].stopped()), ((2, AB), None))
        self.assertEqual(tell(hands, 1, 0), new)
        self.assertEqual((hands[0].standing(), hands[0].stopped()), ((2, AB), None))
        for hand in hands.values():
            self.assertEqual(hand.book(), ((1, 1, 1, "one", 6), (1, 0, 1, "own", 5)))
            self.assertEqual((hand.taken(), hand.kept(), hand.places()), ({}, [], []))

    def test_a_list_of_three(self):
        hands = group([0, 1, 2])
        for hand in hands.values():
            hand.call("one", hand.me)
        renewed(hands, 1)
        for hand in hands.values():
            self.assertEqual(hand.standing(), (2, ABC))
            self.assertEqual(hand.book(), tuple((1, caller, 1, "one", caller) for caller in (0, 1, 2)))
            self.assertEqual([event[1] for event in hand.events() if event[0] == "take"],
                             [(1, 0, 1), (1, 1, 1), (1, 2, 1)])

    def test_it_waits_for_all_that_it_does_not_suspect(self):
        hands = group([0, 1, 2])
        hands[1].renew()
        for _ in range(5):
            go_round(hands, [0, 1])
        self.assertEqual((hands[0].standing(), hands[1].standing()), ((1, ABC), (1, ABC)))
        self.assertEqual((hands[0].stopped(), hands[1].stopped()), ((1, 1), (1, 1)))

    def test_two_that_renew(self):
        hands = group([0, 1, 2])
        hands[0].renew()
        hands[2].renew()
        go_rounds(hands)
        for hand in hands.values():
            self.assertEqual(lists(hand), [("list", 1, ABC, 0, ABC), ("list", 2, ABC, ABC, 0)])

    def test_calls_of_a_stopped_hand_that_nobody_heard(self):
        hands = group([0, 1, 2])
        hands[2].call("own", 9)
        hands[2].renew()
        go_rounds(hands)
        for hand in hands.values():
            self.assertEqual(hand.book(), ((1, 2, 1, "own", 9),))


class Suspecting(unittest.TestCase):
    def test_it_tells_events_and_is_never_of_itself(self):
        hands = group([0, 1, 2])
        self.assertEqual(hands[1].suspect((1 << 63) - 1), [])
        hands[1].renew()
        tell(hands, 1, 0)
        tell(hands, 0, 1)
        tell(hands, 1, 0)
        self.assertEqual(tell(hands, 0, 1), [("list", 2, AB, AB, 0)])

    def test_who_is_suspected_is_left_out(self):
        hands = group([0, 1, 2])
        renewed(hands, 1, [0, 1], set_of([2]))
        self.assertEqual((hands[0].standing(), hands[1].standing()), ((2, AB), (2, AB)))
        self.assertEqual(hands[2].standing(), (1, ABC))
        self.assertEqual(hands[0].events()[1:], [("list", 2, AB, AB, 0)])

    def test_who_is_suspected_but_reports_goes_on(self):
        hands = group([0, 1, 2])
        hands[1].renew()
        tell(hands, 1, 0)
        tell(hands, 1, 2)
        tell(hands, 2, 1)
        self.assertEqual(hands[1].suspect(set_of([0, 2])), [])
        go_rounds(hands)
        for hand in (1, 2):
            self.assertEqual(hands[hand].standing(), (2, set_of([1, 2])))
        self.assertIsNone(hands[0].standing())

    def test_suspecting_settles(self):
        hands = group([0, 1, 2])
        hands[1].renew()
        tell(hands, 1, 0)
        tell(hands, 0, 1)
        self.assertEqual(tell(hands, 1, 0), [])
        hands[1].suspect(set_of([2]))
        self.assertEqual(tell(hands, 1, 0), [("list", 2, AB, AB, 0)])

    def test_not_with_just_half(self):
        hands = group([0, 1])
        hands[0].suspect(set_of([1]))
        self.assertEqual(hands[0].renew(), [])
        self.assertEqual(hands[0].suspect((1 << 63) - 1), [])
        self.assertEqual(hands[0].standing(), (1, AB))

    def test_just_the_hands_handed_in_last(self):
        hands = group([0, 1, 2, 3, 4])
        hands[0].suspect(set_of([1, 2]))
        hands[0].suspect(set_of([4]))
        hands[0].renew()
        for _ in range(4):
            go_round(hands, [0, 3, 4])
        self.assertEqual(hands[0].standing()[0], 1)
        hands[0].suspect(set_of([1, 2]))
        go_rounds(hands, [0, 3, 4])
        self.assertEqual(hands[0].standing(), (2, set_of([0, 3, 4])))

    def test_through_all_lists(self):
        hands = group([0, 1, 2, 3])
        renewed(hands, 1, [0, 1, 2], set_of([0, 3]))
        self.assertEqual(hands[1].standing(), (2, set_of([0, 1, 2])))
        hands[1].renew()
        go_rounds(hands, [1, 2])
        self.assertEqual(hands[1].standing(), (3, set_of([1, 2])))

    def test_in_no_list_and_from_there_on(self):
        hands = group([0, 2], [1])
        self.assertEqual(hands[1].suspect(set_of([0])), [])
        hands[1].come()
        go_round(hands)
        renewed(hands, 0)
        self.assertEqual(hands[1].standing(), (2, ABC))
        hands[1].renew()
        go_rounds(hands, [1, 2])
        self.assertEqual(hands[1].standing(), (3, set_of([1, 2])))


class Leaving(Refusing):
    def test_not_in_then_stopped(self):
        self.refused(NotIn, Hand(5, ABC), "leave")
        hand = Hand(1, ABC)
        hand.renew(2)
        self.assertEqual(self.refused(Stopped, hand, "leave").ballot, (2, 1))

    def test_a_refused_one_does_not_want_to_leave(self):
        hands = group([0, 1, 2])
        hands[1].renew()
        tell(hands, 1, 2)
        self.refused(Stopped, hands[2], "leave")
        go_rounds(hands)
        self.assertEqual(hands[2].standing(), (2, ABC))

    def test_it_is_out_by_the_next_plan_and_took_what_all_took(self):
        hands = group([0, 1, 2])
        hands[0].call("own", 4)
        self.assertIsNone(hands[2].leave())
        self.assertEqual(hands[2].standing(), (1, ABC))
        renewed(hands, 0)
        self.assertIsNone(hands[2].standing())
        self.assertEqual(hands[2].events()[-1], ("out", 1))
        self.assertEqual(hands[2].book(), ((1, 0, 1, "own", 4),))
        self.assertEqual((hands[0].standing(), hands[1].standing()), ((2, AB), (2, AB)))
        self.assertEqual(lists(hands[0])[-1], ("list", 2, AB, ABC, 0))
        self.assertEqual((hands[2].taken(), hands[2].kept(), hands[2].places(), hands[2].stopped()),
                         ({}, [], [], None))

    def test_the_takes_come_ahead_of_the_out(self):
        hands = group([0, 1])
        hands[1].leave()
        hands[1].call("one", 4)
        hands[0].renew()
        tell(hands, 0, 1)
        tell(hands, 1, 0)
        self.assertEqual(tell(hands, 0, 1), [("take", (1, 1, 1), "one", 4, (), "cut"), ("out", 1)])
        self.assertEqual(tell(hands, 1, 0), [("take", (1, 1, 1), "one", 4, (), "cut"), ("list", 2, 1, AB, 0)])

    def test_till_it_is_out(self):
        hands = group([0, 1, 2])
        hands[2].leave()
        renewed(hands, 2)
        self.assertEqual(hands[2].standing(), (2, ABC))
        renewed(hands, 1)
        self.assertIsNone(hands[2].standing())
        hands[2].come()
        go_round(hands)
        renewed(hands, 0)
        self.assertEqual(hands[2].standing(), (4, ABC))
        renewed(hands, 0)
        self.assertEqual(hands[2].standing(), (5, ABC))

    def test_in_no_list_it_is_refused_and_nothing_is_kept_of_it(self):
        hands = group([0, 1], [2])
        self.refused(NotIn, hands[2], "leave")
        hands[2].come()
        go_round(hands)
        renewed(hands, 0)
        renewed(hands, 1)
        self.assertEqual(hands[2].standing(), (3, ABC))

    def test_a_far_out_one_no_longer_wants_to_leave(self):
        hands = group([0, 1, 2])
        hands[2].leave()
        renewed(hands, 0, [0, 1], set_of([2]))
        renewed(hands, 0, [0, 1])
        self.assertEqual(tell(hands, 0, 2), [("out", 1)])
        hands[2].come()
        hands[0].suspect(0)
        go_round(hands)
        renewed(hands, 0)
        renewed(hands, 1)
        self.assertEqual(hands[2].standing(), (5, ABC))


class Coming(Refusing):
    def test_is_in(self):
        hand = Hand(1, ABC)
        self.refused(IsIn, hand, "come")
        hand.renew()
        self.refused(IsIn, hand, "come")

    def test_a_wish_is_noted_and_met(self):
        hands = group([0, 1], [2, 3])
        self.assertIsNone(hands[2].come())
        self.assertEqual(tell(hands, 2, 1), [])
        hands[0].call("own", 4)
        renewed(hands, 1)
        self.assertEqual(hands[0].standing(), (2, ABC))
        self.assertEqual(hands[2].events()[0], ("list", 2, ABC, AB, set_of([2])))
        self.assertEqual(hands[2].book(), ((1, 0, 1, "own", 4),))
        self.assertEqual(hands[2].strays(), [])
        self.assertIsNone(hands[3].standing())
        self.assertEqual(hands[3].events(), [])

    def test_one_that_does_not_wish_is_not_noted(self):
        hands = group([0, 1], [2])
        tell(hands, 2, 1)
        renewed(hands, 1)
        self.assertEqual(hands[1].standing(), (2, AB))

    def test_only_the_wishes_noted_by_who_plans_count(self):
        hands = group([0, 1], [2])
        hands[2].come()
        tell(hands, 2, 0)
        hands[1].renew()
        for _ in range(4):
            go_round(hands, [0, 1])
        self.assertEqual(hands[1].standing(), (2, AB))
        hands[0].renew()
        for _ in range(4):
            go_round(hands, [0, 1])
        self.assertEqual(hands[1].standing(), (3, ABC))

    def test_a_wish_is_not_noted_by_one_in_no_list(self):
        hands = group([0], [1, 2])
        hands[1].come()
        hands[2].come()
        tell(hands, 2, 1)
        tell(hands, 1, 0)
        renewed(hands, 0, [0, 1])
        self.assertEqual(hands[1].standing(), (2, AB))
        renewed(hands, 1, [0, 1])
        self.assertEqual(hands[1].standing(), (3, AB))

    def test_a_wish_of_a_suspected_hand_is_not_met_but_stays(self):
        hands = group([0, 1], [2])
        hands[2].come()
        tell(hands, 2, 1)
        renewed(hands, 1, [0, 1], set_of([2]))
        self.assertEqual(hands[1].standing(), (2, AB))
        renewed(hands, 1, [0, 1])
        self.assertEqual(hands[1].standing(), (3, ABC))

    def test_wishes_stay_also_while_it_is_out(self):
        hands = group([0, 1], [2])
        hands[2].come()
        tell(hands, 2, 1)
        hands[1].leave()
        renewed(hands, 0, [0, 1])
        self.assertIsNone(hands[1].standing())
        hands[1].come()
        go_round(hands, [0, 1])
        renewed(hands, 0, [0, 1])
        self.assertEqual(hands[1].standing(), (3, AB))
        renewed(hands, 1, [0, 1])
        self.assertEqual(hands[1].standing(), (4, ABC))

    def test_wishes_of_the_lists_hands_are_forgotten(self):
        hands = group([0, 1], [2])
        hands[2].come()
        go_round(hands)
        renewed(hands, 1)
        hands[2].leave()
        renewed(hands, 1)
        self.assertEqual(hands[1].standing(), (3, AB))
        renewed(hands, 1)
        self.assertEqual(hands[1].standing(), (4, AB))
        renewed(hands, 0)
        self.assertEqual(hands[1].standing(), (5, AB))

    def test_also_where_these_came_while_it_was_out(self):
        hands = group([0, 1], [2])
        hands[2].come()
        tell(hands, 2, 1)
        tell(hands, 2, 0)
        hands[1].leave()
        renewed(hands, 0)
        hands[1].come()
        go_round(hands)
        self.assertEqual((hands[0].standing(), hands[1].standing()), ((2, set_of([0, 2])), None))
        renewed(hands, 0)
        self.assertEqual(lists(hands[1])[-1], ("list", 3, ABC, set_of([0, 2]), set_of([1])))
        hands[2].leave()
        renewed(hands, 0)
        renewed(hands, 1)
        self.assertEqual(hands[1].standing(), (5, AB))

    def test_a_wish_of_a_hand_of_the_list_is_not_noted(self):
        hands = group([0], [1])
        hands[1].come()
        wish = hands[1].letter()
        hands[0].hear(wish)
        renewed(hands, 0)
        self.assertEqual(hands[0].hear(wish), [])
        hands[1].leave()
        renewed(hands, 0)
        self.assertEqual(hands[0].standing(), (3, 1))
        renewed(hands, 0)
        self.assertEqual(hands[0].standing(), (4, 1))

    def test_a_wish_that_is_heard_late(self):
        hands = group([0, 1], [2])
        hands[2].come()
        wish = hands[2].letter()
        hands[0].hear(wish)
        renewed(hands, 0)
        hands[2].leave()
        renewed(hands, 0)
        self.assertIsNone(hands[2].standing())
        hands[1].hear(wish)
        renewed(hands, 1)
        self.assertEqual(hands[2].standing(), (4, ABC))

    def test_till_it_comes_into_a_list(self):
        hands = group([0, 1], [2])
        hands[2].come()
        go_round(hands)
        renewed(hands, 0)
        hands[2].leave()
        renewed(hands, 0)
        go_round(hands)
        renewed(hands, 0)
        self.assertEqual(hands[0].standing(), (4, AB))
        self.assertIsNone(hands[2].standing())


class Letters(unittest.TestCase):
    def test_they_are_plain_tuples(self):
        hands = group([0, 1, 2], [3])
        told = [hand.letter() for hand in hands.values()]
        hands[3].come()
        hands[0].call("one", -7)
        hands[2].leave()
        for _ in range(2):
            for teller in sorted(hands):
                for hearer in sorted(hands):
                    told.append(hands[teller].letter())
                    hands[hearer].hear(told[-1])
            hands[0].renew()
        go_rounds(hands)
        told.extend(hand.letter() for hand in hands.values())
        told.append(hands[0].letter(1, 0))
        for letter in told:
            self.assertIs(type(letter), tuple)
            self.assertTrue(is_plain(letter))

    def test_telling_changes_nothing(self):
        hands = group([0, 1], [2])
        hands[0].call("one", 1)
        hands[0].renew()
        for hand in hands.values():
            before = state(hand)
            hand.letter()
            hand.letter(1, 2)
            self.assertEqual(state(hand), before)

    def test_an_own_one_does_nothing(self):
        hands = group([0, 1], [2])
        early = [hand.letter() for hand in hands.values()]
        hands[2].come()
        hands[0].call("own", 1)
        go_round(hands)
        renewed(hands, 0)
        hands[1].call("one", 1)
        hands[1].renew()
        for hand, letter in zip(hands.values(), early):
            before = state(hand)
            self.assertEqual(hand.hear(letter), [])
            self.assertEqual(hand.hear(hand.letter()), [])
            self.assertEqual(state(hand), before)

    def test_skip_and_many(self):
        hands = group([0, 1])
        for word in range(5):
            hands[0].call("own", word)
        self.assertEqual([event[1] for event in hands[1].hear(hands[0].letter(0, 2))], [(1, 0, 1), (1, 0, 2)])
        self.assertEqual(hands[1].hear(hands[0].letter(3, 1)), [])
        self.assertEqual(hands[1].hear(hands[0].letter(5)), [])
        self.assertEqual(hands[1].hear(hands[0].letter(0, 0)), [])
        self.assertEqual([event[1] for event in hands[1].hear(hands[0].letter(skip=2, many=1))],
                         [(1, 0, 3), (1, 0, 4)])
        self.assertEqual([event[1] for event in hands[1].hear(hands[0].letter(4))], [(1, 0, 5)])

    def test_left_out_they_mean_all(self):
        hands = group([0, 1])
        for word in range(5):
            hands[0].call("own", word)
        self.assertEqual(hands[0].letter(), hands[0].letter(0))
        self.assertEqual(hands[0].letter(), hands[0].letter(0, 10 ** 6))
        self.assertEqual([event[1][2] for event in hands[1].hear(hands[0].letter(1))], [])
        self.assertEqual([event[1][2] for event in hands[1].hear(hands[0].letter(0, 1))], [1, 2, 3, 4, 5])

    def test_a_report_is_whole_whatever_skip_and_many(self):
        hands = group([0, 1])
        for word in range(3):
            hands[1].call("one", word)
        hands[0].renew()
        tell(hands, 0, 1)
        hands[0].hear(hands[1].letter(3, 0))
        tell(hands, 0, 1)
        self.assertEqual(hands[1].standing(), (2, AB))
        self.assertEqual([row[2] for row in hands[1].book()], [1, 2, 3])

    def test_a_letter_twice(self):
        hands = group([0, 1, 2])
        hands[0].call("own", 1)
        letter = hands[0].letter()
        self.assertEqual(len(hands[1].hear(letter)), 1)
        before = state(hands[1])
        self.assertEqual(hands[1].hear(letter), [])
        self.assertEqual(state(hands[1]), before)

    def test_a_letter_is_not_changed_by_what_comes_behind_it(self):
        hands = group([0, 1])
        hands[0].call("own", 1)
        letter = hands[0].letter()
        kept = repr(letter)
        hands[1].hear(letter)
        hands[0].call("one", 2)
        hands[1].call("one", 3)
        renewed(hands, 0)
        self.assertEqual(repr(letter), kept)


class HearingOneThatStands(Refusing):
    def nothing(self, hand, letter):
        before = state(hand)
        self.assertEqual(hand.hear(letter), [])
        self.assertEqual(state(hand), before)

    def test_the_same_list(self):
        hands = group([0, 1])
        hands[0].call("heard", 4)
        self.assertEqual(tell(hands, 0, 1), [("take", (1, 0, 1), "heard", 4, (), "ready")])
        hands[1].call("one", 5)
        self.assertEqual(tell(hands, 1, 0), [])
        self.assertEqual(hands[0].places(), [(1, 1, 1)])
        self.assertEqual(tell(hands, 0, 1), [("take", (1, 1, 1), "one", 5, ((0, 1),), "sure")])
        self.assertEqual(tell(hands, 1, 0), [("take", (1, 1, 1), "one", 5, ((0, 1),), "sure")])

    def test_the_same_list_stopped(self):
        hands = group([0, 1, 2])
        hands[0].call("own", 4)
        hands[1].renew()
        self.nothing(hands[1], hands[0].letter())
        hands[2].renew(3)
        self.assertEqual(tell(hands, 2, 1), [])
        self.assertEqual((hands[1].stopped(), hands[1].taken()), ((3, 2), {}))

    def test_the_page_listens_ahead_of_the_ballot_that_stops_it(self):
        hands = group([0, 1])
        hands[0].call("own", 4)
        hands[0].renew()
        self.assertEqual(tell(hands, 0, 1), [("take", (1, 0, 1), "own", 4, (), "ready")])
        self.assertEqual(hands[1].stopped(), (1, 0))

    def ahead(self, leave=False, doubts=0):
        """Hands 0 and 1 are in list 2, and made a call there; hand 2 is still in list 1, where it called, too."""
        hands = group([0, 1, 2])
        hands[2].call("own", 8)
        hands[1].call("one", 9)
        if leave:
            hands[2].leave()
        hands[0].suspect(doubts)
        hands[0].renew()
        if not doubts:
            tell(hands, 0, 2)
            tell(hands, 2, 0)
        for _ in range(3):
            go_round(hands, [0, 1])
        hands[1].call("own", 7)
        self.assertEqual([hands[hand].standing()[0] for hand in (0, 1, 2)], [2, 2, 1])
        return hands

    def test_the_list_ahead(self):
        hands = self.ahead()
        self.assertEqual(tell(hands, 1, 2), [("take", (1, 1, 1), "one", 9, (), "cut"), ("list", 2, ABC, ABC, 0),
                                             ("take", (2, 1, 1), "own", 7, (), "ready")])
        self.assertEqual(hands[2].book(), hands[1].book())
        self.assertEqual(hands[2].book(), ((1, 1, 1, "one", 9), (1, 2, 1, "own", 8)))

    def test_the_list_ahead_of_one_that_leaves(self):
        hands = self.ahead(leave=True)
        self.assertEqual(tell(hands, 1, 2), [("take", (1, 1, 1), "one", 9, (), "cut"), ("out", 1)])
        self.assertEqual(hands[2].book(), ((1, 1, 1, "one", 9), (1, 2, 1, "own", 8)))
        self.nothing(hands[2], hands[0].letter())

    def test_the_list_ahead_of_one_that_was_left_out(self):
        hands = self.ahead(doubts=set_of([2]))
        self.assertEqual(tell(hands, 1, 2), [("out", 1)])
        self.assertEqual(hands[2].book(), ())
        self.assertIsNone(hands[2].standing())
        self.nothing(hands[2], hands[0].letter())

    def test_the_list_ahead_and_a_ballot_in_it(self):
        hands = self.ahead()
        hands[1].renew(6)
        events = tell(hands, 1, 2)
        self.assertEqual(events[-1], ("take", (2, 1, 1), "own", 7, (), "ready"))
        self.assertEqual(hands[2].stopped(), (6, 1))

    def test_far_ahead(self):
        hands = self.ahead(doubts=set_of([2]))
        for _ in range(2):
            renewed(hands, 0, [0, 1], set_of([2]))
        self.assertEqual(hands[0].standing(), (4, AB))
        self.assertEqual(tell(hands, 1, 2), [("out", 1)])
        self.assertEqual((hands[2].standing(), hands[2].book(), hands[2].taken()), (None, (), {}))

    def test_far_ahead_also_where_it_was_on_from_its_list(self):
        hands = self.ahead()
        for _ in range(2):
            renewed(hands, 0, [0, 1], set_of([2]))
        self.assertEqual(tell(hands, 0, 2), [("out", 1)])
        self.assertEqual(hands[2].book(), ())

    def test_far_ahead_and_new_there(self):
        hands = group([0, 1], [2])
        hands[2].come()
        wish = hands[2].letter()
        hands[0].hear(wish)
        renewed(hands, 0)
        hands[2].call("own", 8)
        renewed(hands, 0, [0, 1], set_of([2]))
        self.assertEqual((hands[0].standing(), hands[2].standing()), ((3, AB), (2, ABC)))
        hands[0].hear(wish)
        renewed(hands, 0, [0, 1])
        self.assertEqual(hands[0].standing(), (4, ABC))
        hands[1].call("own", 9)
        self.assertEqual(tell(hands, 1, 2), [("out", 2), ("list", 4, ABC, AB, 4),
                                             ("take", (4, 1, 1), "own", 9, (), "ready")])
        self.assertEqual((hands[2].book(), hands[2].strays()), (hands[0].book(), [(2, 2, 1)]))

    def test_an_older_list(self):
        hands = group([0, 1, 2])
        hands[0].call("own", 1)
        early = hands[0].letter()
        hands[0].renew(5)
        stopped = hands[0].letter()
        go_rounds(hands)
        renewed(hands, 1)
        for letter in (early, stopped):
            for hand in (1, 2):
                self.nothing(hands[hand], letter)

    def test_in_none_and_not_new(self):
        hands = group([0, 1], [5])
        hands[0].call("own", 1)
        self.nothing(hands[5], hands[0].letter())
        renewed(hands, 0, [0, 1])
        self.nothing(hands[5], hands[0].letter())

    def test_in_none_and_the_first_lists_number(self):
        hands = group([0, 1, 2])
        hands[0].call("own", 1)
        early = hands[0].letter()
        hands[2].leave()
        renewed(hands, 0)
        self.assertIsNone(hands[2].standing())
        self.nothing(hands[2], early)

    def new_in_two(self):
        hands = group([0, 1], [2])
        hands[2].come()
        tell(hands, 2, 0)
        renewed(hands, 0, [0, 1])
        self.assertEqual(hands[0].standing(), (2, ABC))
        return hands

    def test_in_none_and_new(self):
        hands = self.new_in_two()
        hands[0].call("own", 6)
        self.assertEqual(tell(hands, 0, 2), [("list", 2, ABC, AB, 4), ("take", (2, 0, 1), "own", 6, (), "ready")])
        self.assertEqual(hands[2].standing(), (2, ABC))

    def test_in_none_and_new_in_a_list_with_a_ballot(self):
        hands = self.new_in_two()
        hands[0].renew(4)
        self.assertEqual(tell(hands, 0, 2), [("list", 2, ABC, AB, 4)])
        self.assertEqual(hands[2].stopped(), (4, 0))

    def test_in_none_and_new_but_a_newer_list_was_heard_of(self):
        hands = self.new_in_two()
        early = hands[0].letter()
        renewed(hands, 0, [0, 1], set_of([2]))
        self.assertEqual(hands[0].standing(), (3, AB))
        self.nothing(hands[2], hands[1].letter())
        self.nothing(hands[2], early)

    def test_in_none_and_out_of_that_list_before(self):
        hands = self.new_in_two()
        early = hands[0].letter()
        tell(hands, 0, 2)
        hands[2].leave()
        renewed(hands, 0)
        self.assertIsNone(hands[2].standing())
        self.nothing(hands[2], early)

    def test_in_none_and_a_list_heard_of_while_it_stood(self):
        hands = group([0, 1, 2])
        renewed(hands, 0, [0, 1], set_of([2]))
        renewed(hands, 0, [0, 1], set_of([2]))
        self.assertEqual(tell(hands, 0, 2), [("out", 1)])
        hands[2].come()
        tell(hands, 2, 0)
        renewed(hands, 0, [0, 1])
        self.assertEqual(hands[0].standing(), (4, ABC))
        early = hands[0].letter()
        hands[0].suspect(set_of([2]))
        renewed(hands, 0, [0, 1], set_of([2]))
        self.nothing(hands[2], hands[0].letter())
        self.nothing(hands[2], early)

    def test_a_hand_first_made_for_a_later_number(self):
        hands = group([0, 1], [2], number=7)
        hands[2].come()
        go_round(hands)
        renewed(hands, 0)
        self.assertEqual(hands[2].events(), [("list", 8, ABC, AB, 4)])


class HearingOneThatIsOut(Refusing):
    def test_its_plan(self):
        hands = group([0, 1, 2])
        hands[2].leave()
        hands[1].call("one", 3)
        hands[0].renew()
        for hand in (1, 2):
            tell(hands, 0, hand)
            tell(hands, hand, 0)
        tell(hands, 0, 2)
        self.assertIsNone(hands[2].standing())
        self.assertEqual([hands[hand].standing() for hand in (0, 1)], [(1, ABC), (1, ABC)])
        new = [("take", (1, 1, 1), "one", 3, (), "cut"), ("list", 2, AB, ABC, 0)]
        self.assertEqual(tell(hands, 2, 1), new)
        self.assertEqual(tell(hands, 2, 0), new)
        self.assertEqual(tell(hands, 2, 0), [])

    def test_its_plan_also_where_it_was_left_out(self):
        hands = group([0, 1, 2, 3])
        hands[0].suspect(set_of([3]))
        hands[0].renew()
        for hand in (1, 2):
            tell(hands, 0, hand)
            tell(hands, hand, 0)
        tell(hands, 0, 1)
        tell(hands, 1, 2)
        self.assertEqual(tell(hands, 2, 3), [("out", 1)])
        self.assertEqual(tell(hands, 3, 0), [("list", 2, ABC, ABC, 0)])
        self.assertEqual(tell(hands, 3, 1), [("list", 2, ABC, ABC, 0)])

    def test_its_plan_puts_out_whom_it_leaves_out(self):
        hands = group([0, 1, 2, 3, 4])
        hands[0].suspect(set_of([3, 4]))
        hands[0].renew()
        for hand in (1, 2):
            tell(hands, 0, hand)
            tell(hands, hand, 0)
        tell(hands, 0, 1)
        tell(hands, 1, 2)
        self.assertEqual(tell(hands, 2, 3), [("out", 1)])
        hands[4].call("own", 1)
        self.assertEqual(tell(hands, 3, 4), [("out", 1)])
        self.assertEqual(hands[4].book(), ())

    def test_a_plan_and_a_wish(self):
        hands = group([0, 1, 2])
        hands[2].leave()
        hands[0].renew()
        for hand in (1, 2):
            tell(hands, 0, hand)
            tell(hands, hand, 0)
        tell(hands, 0, 2)
        hands[2].come()
        self.assertEqual(tell(hands, 2, 1), [("list", 2, AB, ABC, 0)])
        renewed(hands, 1, [0, 1])
        self.assertEqual(hands[1].standing(), (3, ABC))

    def test_a_plan_of_another_list_does_nothing(self):
        hands = group([0, 1, 2])
        hands[2].leave()
        renewed(hands, 0)
        self.assertIsNone(hands[2].standing())
        letter = hands[2].letter()
        for hand in (0, 1):
            before = state(hands[hand])
            self.assertEqual(hands[hand].hear(letter), [])
            self.assertEqual(state(hands[hand]), before)

    def test_no_plan_is_told_by_one_that_went_out_without(self):
        hands = group([0, 1, 2, 3, 4])
        for _ in range(2):
            renewed(hands, 0, [0, 1, 2], set_of([3, 4]))
        self.assertEqual(tell(hands, 0, 3), [("out", 1)])
        self.assertEqual(tell(hands, 3, 4), [])
        self.assertEqual(hands[4].standing()[0], 1)

    def test_no_plan_is_told_any_more_once_it_came_in_again(self):
        hands = group([0, 1, 2, 3, 4])
        renewed(hands, 0, [0, 1, 2], set_of([3, 4]))
        self.assertEqual(tell(hands, 0, 3), [("out", 1)])
        hands[3].come()
        tell(hands, 3, 0)
        renewed(hands, 0, [0, 1, 2, 3], set_of([4]))
        self.assertEqual(hands[3].standing()[0], 3)
        for _ in range(2):
            renewed(hands, 0, [0, 1, 2], set_of([3, 4]))
        self.assertEqual(tell(hands, 0, 3), [("out", 3)])
        self.assertEqual(tell(hands, 3, 4), [])
        self.assertEqual(hands[4].standing()[0], 1)

    def test_its_lists_number_does_not_count_as_heard_of(self):
        hands = group([0, 1, 2], [3])
        hands[3].come()
        go_round(hands)
        hands[1].leave()
        renewed(hands, 0, [0, 1, 2])
        early = hands[0].letter()
        self.assertEqual(hands[0].standing(), (2, set_of([0, 2, 3])))
        hands[2].leave()
        renewed(hands, 0, [0, 2], set_of([3]))
        self.assertEqual(hands[2].events()[-1], ("out", 2))
        self.assertEqual(tell(hands, 2, 3), [])
        self.assertEqual(hands[3].hear(early)[0], ("list", 2, set_of([0, 2, 3]), ABC, 8))


class BooksAndStrays(unittest.TestCase):
    def left_out(self):
        """Hand 2 took calls that the others never heard of, and was left out."""
        hands = group([0, 1, 2])
        hands[0].call("own", 1)
        go_round(hands)
        hands[2].call("heard", 2)
        hands[2].call("own", 3)
        hands[2].call("one", 4)
        renewed(hands, 0, [0, 1], set_of([2]))
        hands[0].suspect(0)
        hands[0].call("own", 5)
        go_rounds(hands, [0, 1])
        self.assertEqual(tell(hands, 0, 2), [("out", 1)])
        return hands

    def test_the_book_lacks_the_list_in_which_it_was_left_out(self):
        hands = self.left_out()
        self.assertEqual(hands[2].book(), ())
        self.assertEqual(hands[0].book(), ((1, 0, 1, "own", 1),))

    def test_strays_are_told_when_it_comes_in_new(self):
        hands = self.left_out()
        self.assertEqual(hands[2].strays(), [])
        hands[2].come()
        go_round(hands)
        self.assertEqual(hands[2].strays(), [])
        renewed(hands, 0)
        self.assertEqual(hands[2].standing(), (3, ABC))
        self.assertEqual(hands[2].book(), ((1, 0, 1, "own", 1), (2, 0, 1, "own", 5)))
        self.assertEqual(hands[2].strays(), [(1, 2, 1), (1, 2, 2)])
        for hand in (0, 1):
            self.assertEqual(hands[hand].strays(), [])

    def test_they_stay_till_it_comes_in_so_again(self):
        hands = self.left_out()
        hands[2].come()
        go_round(hands)
        renewed(hands, 0)
        renewed(hands, 0)
        self.assertEqual(hands[2].strays(), [(1, 2, 1), (1, 2, 2)])
        hands[2].call("own", 6)
        renewed(hands, 0, [0, 1], set_of([2]))
        hands[0].suspect(0)
        go_rounds(hands)
        self.assertIsNone(hands[2].standing())
        self.assertEqual(hands[2].strays(), [(1, 2, 1), (1, 2, 2)])
        hands[2].come()
        go_round(hands)
        renewed(hands, 0)
        self.assertEqual(hands[2].strays(), [(1, 2, 1), (1, 2, 2), (4, 2, 1)])

    def test_no_strays_once_more_is_none(self):
        hands = group([0], [1])
        hands[1].come()
        go_round(hands)
        renewed(hands, 0)
        hands[1].call("own", 1)
        hands[1].leave()
        renewed(hands, 0)
        self.assertIsNone(hands[1].standing())
        hands[1].come()
        go_round(hands)
        renewed(hands, 0)
        self.assertEqual((hands[1].standing(), hands[1].strays()), ((4, AB), []))

    def test_strays_in_the_order_taken(self):
        hands = group([1, 2, 3], [0])
        hands[3].call("own", 1)
        hands[2].call("own", 2)
        tell(hands, 2, 3)
        hands[3].call("own", 3)
        renewed(hands, 1, [1, 2], set_of([3]))
        hands[1].suspect(0)
        self.assertEqual(tell(hands, 1, 3), [("out", 1)])
        hands[3].come()
        go_round(hands)
        renewed(hands, 1)
        self.assertEqual(hands[3].book(), ((1, 2, 1, "own", 2),))
        self.assertEqual(hands[3].strays(), [(1, 3, 1), (1, 3, 2)])

    def test_a_book_row_by_row(self):
        hands = group([0, 1])
        hands[1].call("own", 1)
        hands[0].call("one", 2)
        hands[1].call("one", 3)
        hands[0].call("heard", 4)
        go_rounds(hands)
        renewed(hands, 0)
        hands[1].call("heard", 5)
        renewed(hands, 1)
        for hand in hands.values():
            self.assertEqual(hand.book(), ((1, 0, 1, "one", 2), (1, 1, 2, "one", 3), (1, 0, 2, "heard", 4),
                                           (1, 1, 1, "own", 1), (2, 1, 1, "heard", 5)))


class Told(unittest.TestCase):
    def test_lists_and_dicts_are_the_askers_own(self):
        hands = group([0, 1, 2])
        hands[0].call("own", 1)
        hands[1].call("one", 2)
        go_round(hands)
        hands[2].call("own", 3)
        renewed(hands, 0, [0, 1], set_of([2]))
        hands[0].suspect(0)
        tell(hands, 0, 2)
        hands[2].come()
        go_round(hands)
        renewed(hands, 0)
        for hand in hands.values():
            hand.call("own", 4)
            hand.call("one", 5)
        go_round(hands)
        self.assertEqual(hands[2].strays(), [(1, 2, 1)])
        for hand in hands.values():
            before = state(hand)
            hand.events().append(("out", 9))
            hand.events().clear()
            hand.taken()[0] = 99
            hand.taken().clear()
            hand.kept().append((1, 1, 1))
            hand.kept().clear()
            hand.places().append((1, 1, 1))
            hand.places().clear()
            hand.strays().append((1, 1, 1))
            hand.strays().clear()
            hand.hear(hands[(hand.me + 1) % 3].letter()).clear()
            hand.suspect(0).append(("out", 9))
            self.assertEqual(hand.events()[:len(before[0])], before[0])
            self.assertTrue(hand.kept() and hand.places() and hand.taken())
        self.assertEqual(hands[2].strays(), [(1, 2, 1)])

    def test_their_kinds(self):
        hand = Hand(0, 1)
        hand.call("one", 1)
        hand.renew()
        hand.call("own", 2)
        self.assertEqual([type(told) for told in (hand.events(), hand.standing(), hand.taken(), hand.kept(),
                                                  hand.places(), hand.strays(), hand.book())],
                         [list, tuple, dict, list, list, list, tuple])
        self.assertTrue(all(is_plain(event) for event in hand.events()))
        self.assertTrue(is_plain(hand.book()))

    def test_kept_names_are_sorted(self):
        hands = group([0, 1, 2])
        for word in range(3):
            hands[2].call("own", word)
            hands[0].call("own", word)
        tell(hands, 2, 0)
        self.assertEqual(hands[0].kept(), [(1, 0, 1), (1, 0, 2), (1, 0, 3), (1, 2, 1), (1, 2, 2), (1, 2, 3)])

    def test_places(self):
        hands = group([0, 1, 2])
        hands[1].call("one", 1)
        hands[2].call("one", 2)
        tell(hands, 2, 0)
        tell(hands, 1, 0)
        self.assertEqual(hands[0].places(), [(1, 2, 1), (1, 1, 1)])
        self.assertEqual(hands[1].places(), [])
        tell(hands, 0, 1)
        self.assertEqual(hands[1].places(), [(1, 2, 1), (1, 1, 1)])

    def test_stopped_till_the_next_list_or_out(self):
        hands = group([0, 1, 2])
        hands[2].leave()
        hands[1].renew(2)
        go_round(hands)
        self.assertEqual([hand.stopped() for hand in hands.values()][:2], [(2, 1), (2, 1)])
        go_rounds(hands)
        self.assertEqual([hand.stopped() for hand in hands.values()], [None, None, None])
        self.assertEqual([hands_of(hands[hand].standing()[1]) for hand in (0, 1)], [[0, 1], [0, 1]])


if __name__ == "__main__":
    unittest.main()
