"""The whole: what holds of the hands of one group, whatever is done to them, and the points on calm."""

import random
import unittest

from groupcall.errors import Held, IsIn, NotIn, Stopped
from groupcall.hands import Hand
from groupcall.judge import fault
from groupcall.sets import hands_of, has, more_than_half, set_of

KINDS = ("own", "heard", "one", "one")
# How often a hand calls, tells, hears, suspects, renews, leaves, comes.
MIXES = (
    (20, 25, 40, 3, 4, 2, 6),
    (10, 20, 60, 2, 2, 1, 3),
    (5, 25, 55, 8, 8, 3, 8),
    (30, 20, 45, 1, 1, 1, 1),
)


def taken_names(events, number):
    return [event[1] for event in events if event[0] == "take" and event[1][0] == number]


def taken_ones(events, number):
    return [event[1] for event in events if event[0] == "take" and event[1][0] == number and event[2] == "one"]


def goes_on_from(events, number):
    """Whether the history goes on from the list of that number to the next one."""
    for at, event in enumerate(events):
        if event[0] == "list" and event[1] == number + 1:
            return any(past[:2] == ("list", number) for past in events[:at]) and ("out", number) not in events[:at]
    return False


class Group:
    def __init__(self, test, seed):
        self.test = test
        self.chance = random.Random(seed)
        hands = sorted(self.chance.sample(range(63), self.chance.choice([1, 2, 3, 3, 4, 5, 6, 7])))
        first = set_of(self.chance.sample(hands, self.chance.randint(1, len(hands))))
        self.begin(hands, first, self.chance.choice([0, 1, 10 ** 18]), self.chance.choice([1, 3, 8, 60]))

    def begin(self, hands, first, number, room):
        self.hands = {hand: Hand(hand, first, number, room) for hand in hands}
        self.letters = []
        # By hand: how many events it had when it last asked to come in, or to leave.
        self.wishing = {}
        self.leaving = {}
        # By name: what was called, and the names that its caller had taken in that list by then.
        self.made = {}
        # By number: the hands and the book first seen of that list.
        self.chain = {}
        for me in self.hands:
            self.check_standing(me)

    def some_hands(self, share):
        return set_of([hand for hand in self.hands if self.chance.random() < share])

    def standing(self, me):
        return self.hands[me].standing()

    def all_standing(self):
        return [me for me in self.hands if self.standing(me) is not None]

    def call(self, me):
        kind, word = self.chance.choice(KINDS), self.chance.randrange(-9, 9)
        events = self.hands[me].events()
        name = self.hands[me].call(kind, word)
        self.test.assertNotIn(name, self.made)
        self.made[name] = (kind, word, set(taken_names(events, name[0])))
        self.check_standing(me)

    def check_told(self, me, events, told):
        """That a deed told just the events that came by it."""
        self.test.assertEqual(self.hands[me].events(), events + told)
        self.check_standing(me)

    def tell(self, me):
        if self.chance.random() < 0.7:
            self.letters.append(self.hands[me].letter())
        else:
            self.letters.append(self.hands[me].letter(self.chance.randrange(4), self.chance.randrange(4)))

    def hear(self, me, letter):
        self.check_told(me, self.hands[me].events(), self.hands[me].hear(letter))

    def hear_any(self, me):
        if self.letters:
            late = self.chance.random() < 0.2
            back = self.chance.randrange(len(self.letters) if late else min(len(self.letters), 6))
            self.hear(me, self.letters[len(self.letters) - 1 - back])

    def suspect(self, me, doubts):
        self.check_told(me, self.hands[me].events(), self.hands[me].suspect(doubts))

    def suspect_any(self, me):
        self.suspect(me, self.some_hands(self.chance.choice([0, 0.2, 0.5])))

    def renew(self, me):
        self.check_told(me, self.hands[me].events(), self.hands[me].renew(self.chance.choice([1, 1, 2, 10 ** 9])))

    def leave(self, me):
        self.hands[me].leave()
        self.leaving[me] = len(self.hands[me].events())

    def come(self, me):
        self.hands[me].come()
        self.wishing[me] = len(self.hands[me].events())

    def deeds(self, many):
        mix = self.chance.choice(MIXES)
        deeds = [self.call, self.tell, self.hear_any, self.suspect_any, self.renew, self.leave, self.come]
        for deed in self.chance.choices(deeds, mix, k=many):
            me = self.chance.choice(sorted(self.hands))
            events = self.hands[me].events()
            try:
                deed(me)
            except (Held, IsIn, NotIn, Stopped):
                self.test.assertEqual(self.hands[me].events(), events)

    def go_round(self, some=None):
        some = sorted(self.hands if some is None else some)
        for teller in some:
            for hearer in some:
                if teller != hearer:
                    self.hear(hearer, self.hands[teller].letter())

    def go_rounds(self, some=None):
        for _ in range(4):
            self.go_round(some)

    def wishes(self, me):
        """Whether it wished to come in, and did not come into a list since."""
        events = self.hands[me].events()
        return me in self.wishing and all(event[0] != "list" for event in events[self.wishing[me]:])

    def wants_out(self, me):
        events = self.hands[me].events()
        return me in self.leaving and all(event[0] != "out" for event in events[self.leaving[me]:])

    def check_standing(self, me):
        hand = self.hands[me]
        if hand.standing() is not None:
            number, hands = hand.standing()
            self.test.assertEqual(self.chain.setdefault(number, (hands, hand.book())), (hands, hand.book()))
            self.check_let_go(hand, number, hands)

    def check_let_go(self, hand, number, hands):
        gone = set(taken_names(hand.events(), number)) - set(hand.kept())
        if gone:
            for other in hands_of(hands):
                self.test.assertLessEqual(gone, set(taken_names(self.hands[other].events(), number)))

    def check_histories(self):
        histories = {me: hand.events() for me, hand in self.hands.items()}
        for me, events in histories.items():
            numbers = [event[1] for event in events if event[0] == "list"]
            self.test.assertEqual(numbers, sorted(set(numbers)))
            self.check_row_and_causes(events)
            self.check_state(me, events)
        for number in sorted(self.chain):
            self.check_list(number, histories)
        self.test.assertIsNone(fault(list(histories.items())))

    def check_row_and_causes(self, events):
        took = {}
        for event in events:
            if event[0] == "take":
                name = event[1]
                before = took.setdefault(name[0], [])
                kind, word, ahead = self.made[name]
                self.test.assertEqual(event[2:4], (kind, word))
                self.test.assertEqual([past for past in before if past[1] == name[1]],
                                      [(name[0], name[1], count) for count in range(1, name[2])])
                if kind != "own":
                    self.test.assertTrue(ahead <= set(before))
                before.append(name)

    def check_state(self, me, events):
        strays = []
        for at, event in enumerate(events):
            if event[0] == "list" and has(event[4], me) and event[3] != 0:
                book = [row[:3] for row in self.chain[event[1]][1]]
                strays = [past[1] for past in events[:at] if past[0] == "take" and past[1] not in book]
        self.test.assertEqual(self.hands[me].strays(), strays)
        for name in strays:
            self.test.assertNotEqual(self.made[name][0], "one")

    def check_list(self, number, histories):
        ones = sorted([taken_ones(events, number) for events in histories.values()], key=len)
        for shorter, longer in zip(ones, ones[1:]):
            self.test.assertEqual(shorter, longer[:len(shorter)])
        on = [me for me, events in histories.items() if goes_on_from(events, number)]
        for me in on:
            names = taken_names(histories[me], number)
            self.test.assertEqual(len(names), len(set(names)))
            self.test.assertEqual(set(names), set(taken_names(histories[on[0]], number)))
            self.test.assertEqual(taken_ones(histories[me], number), ones[-1])
            self.test.assertLessEqual({name for name in self.made if name[:2] == (number, me)}, set(names))
        if on:
            others = sorted(set(taken_names(histories[on[0]], number)) - set(ones[-1]))
            rows = tuple(name + self.made[name][:2] for name in ones[-1] + others)
            self.test.assertEqual(self.chain[number + 1][1], self.chain[number][1] + rows)


class Whole(unittest.TestCase):
    def test_whatever_is_done(self):
        lists = 0
        for seed in range(100):
            with self.subTest(seed=seed):
                group = Group(self, seed)
                group.deeds(group.chance.choice([300, 600]))
                group.check_histories()
                lists += len(group.chain) > 3
        self.assertGreater(lists, 15)

    def test_groups_that_fall_apart_and_meet_again(self):
        strays = 0
        for seed in range(100):
            with self.subTest(seed=seed):
                group = Group(self, seed)
                for _ in range(6):
                    part = [hand for hand in group.hands if group.chance.random() < 0.7]
                    self.live_apart(group, part)
                    self.live_apart(group, [hand for hand in group.hands if hand not in part])
                group.check_histories()
                strays += any(hand.strays() for hand in group.hands.values())
        self.assertGreater(strays, 5)

    def live_apart(self, group, some):
        for me in some:
            group.suspect(me, set_of([other for other in group.hands if other not in some]))
            if group.standing(me) is None:
                group.come(me)
            elif group.hands[me].stopped() is None and group.hands[me].kept() == []:
                group.call(me)
        group.go_round(some)
        standing = [me for me in some if group.standing(me) is not None]
        if standing:
            group.renew(group.chance.choice(standing))
        for _ in range(group.chance.choice([1, 3])):
            group.go_round(some)

    def test_a_full_list(self):
        group = Group(self, 1)
        group.begin(list(range(7)), 127, 1, 60)
        for _ in range(2):
            for _ in range(50):
                for me in group.hands:
                    group.call(me)
            group.go_rounds()
        group.renew(3)
        group.go_rounds()
        self.assertEqual(len(group.hands[0].book()), 700)
        self.assertEqual([group.standing(me) for me in group.hands], [(2, 127)] * 7)
        group.check_histories()


class Calm(unittest.TestCase):
    def test_rounds_of_all(self):
        came, left = 0, 0
        for seed in range(2000, 2120):
            with self.subTest(seed=seed):
                group = Group(self, seed)
                group.deeds(group.chance.choice([0, 30, 150, 400]))
                self.check_calm(group)
                more = self.check_renewed(group)
                group.check_histories()
                came += more[0]
                left += more[1]
        self.assertGreater(came, 20)
        self.assertGreater(left, 20)

    def check_calm(self, group):
        for me in group.hands:
            group.suspect(me, 0)
        group.go_rounds()
        number, hands = group.standing(group.all_standing()[0])
        self.assertEqual(group.all_standing(), hands_of(hands))
        made = {name for name in group.made if name[0] == number}
        for me in group.all_standing():
            hand = group.hands[me]
            self.assertEqual((hand.standing(), hand.stopped(), hand.kept()), ((number, hands), None, []))
            self.assertEqual(set(taken_names(hand.events(), number)), made)
            self.assertEqual(sum(hand.taken().values()), len(made))

    def check_renewed(self, group):
        standing = group.all_standing()
        for me in group.hands:
            if group.chance.random() < 0.3:
                if me in standing:
                    group.leave(me)
                else:
                    group.come(me)
        group.go_round()
        me = group.chance.choice(standing)
        number = group.standing(me)[0]
        wishing = [hand for hand in group.hands if group.wishes(hand)]
        leaving = [hand for hand in standing if group.wants_out(hand) and hand != me]
        group.renew(me)
        group.go_rounds()
        hands = group.chain[number + 1][0]
        # Others may come in, too: hands of which a wish was noted long ago.
        for hand in group.hands:
            self.assertEqual(group.standing(hand), (number + 1, hands) if has(hands, hand) else None)
        for hand in wishing + [me]:
            self.assertTrue(has(hands, hand))
        for hand in leaving:
            self.assertFalse(has(hands, hand))
        return (len(wishing) > 0, len(leaving) > 0)

    def test_rounds_of_more_than_half(self):
        done, without_some = 0, 0
        for seed in range(3000, 3200):
            with self.subTest(seed=seed):
                group = Group(self, seed)
                group.deeds(group.chance.choice([0, 30, 150, 400]))
                some = hands_of(group.some_hands(group.chance.choice([0.5, 0.7, 0.9])))
                group.go_round(some)
                newest = max([group.standing(hand) or (-1, 0) for hand in some], default=(-1, 0))
                those = [hand for hand in some if group.standing(hand) == newest]
                if more_than_half(set_of(those), newest[1]):
                    self.check_newer(group, those, newest)
                    done += 1
                    without_some += set_of(those) != newest[1]
                group.check_histories()
        self.assertGreater(done, 40)
        self.assertGreater(without_some, 15)

    def check_newer(self, group, those, newest):
        me = group.chance.choice(those)
        group.suspect(me, (newest[1] | group.some_hands(0.3)) & ~set_of(those))
        if group.standing(me) is not None:
            group.renew(me)
        group.go_rounds(those)
        for hand in those:
            standing = group.standing(hand)
            self.assertTrue(standing is None or standing[0] > newest[0])


if __name__ == "__main__":
    unittest.main()
