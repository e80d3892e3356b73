import random
import unittest

from groupcall.errors import GroupError, Held, IsIn, NotIn, Stopped
from groupcall.hands import Hand
from groupcall.judge import fault
from groupcall.saved import read_back, saved
from groupcall.sets import set_of

DEEDS = ("call", "tell", "hear", "suspect", "renew", "leave", "come", "save")


def group(first, others=(), number=1, room=8):
    return {hand: Hand(hand, set_of(first), number, room) for hand in sorted([*first, *others])}


def tell(hands, teller, hearer):
    return hands[hearer].hear(hands[teller].letter())


def go_round(hands, some=None):
    some = sorted(hands if some is None else some)
    for teller in some:
        for hearer in some:
            if teller != hearer:
                tell(hands, teller, hearer)


def go_rounds(hands, some=None):
    for _ in range(4):
        go_round(hands, some)


def state(hand):
    return (hand.events(), hand.standing(), hand.taken(), hand.kept(), hand.places(), hand.strays(), hand.stopped(),
            hand.book(), hand.letter(), hand.letter(1, 2))


def is_plain(value):
    if type(value) is tuple:
        return all(is_plain(part) for part in value)
    return value is None or type(value) in (int, str, bool)


def outcome(hand, deed, handed):
    """What came of a deed: what it told, or by what it was refused."""
    try:
        return ("told", getattr(hand, deed)(*handed))
    except GroupError as refusal:
        return ("refused", type(refusal), vars(refusal))


class Pair:
    """A hand and one read back from it: whatever is told to both must come to the same."""

    def __init__(self, test, hand):
        self.test = test
        self.hand = hand
        self.back = read_back(saved(hand))
        self.test.assertEqual(state(self.back), state(self.hand))

    def both(self, deed, *handed):
        first = outcome(self.hand, deed, handed)
        self.test.assertEqual(outcome(self.back, deed, handed), first)
        self.test.assertEqual(state(self.back), state(self.hand))
        if first[0] == "refused":
            raise first[1](*first[2].values())
        return first[1]

    def __getattr__(self, deed):
        return lambda *handed: self.both(deed, *handed)

    def save(self):
        value = saved(self.back)
        self.test.assertTrue(is_plain(value))
        self.test.assertEqual(value, saved(self.hand))
        self.back = read_back(value)
        self.test.assertEqual(saved(self.back), value)


# Each scene tells the hands of a group, and which one is to be saved.

def fresh():
    return group([0, 1, 2]), 1


def other_number_and_room():
    return group([0, 1], number=10 ** 18, room=1), 0


def never_in():
    return group([0, 1], [9]), 9


def wishing_to_come():
    hands = group([0, 1], [9])
    hands[9].come()
    return hands, 9


def wanting_to_leave():
    hands = group([0, 1, 2])
    hands[1].leave()
    return hands, 1


def with_calls_of_all_kinds():
    hands = group([0, 1, 2])
    for me in (0, 1, 2):
        for kind in ("one", "own", "heard"):
            hands[me].call(kind, 10 * me - 7)
        go_round(hands, [0, 1])
    return hands, 1


def with_a_full_room():
    hands = group([0, 1], room=3)
    for word in (10 ** 60 - 1, 1 - 10 ** 60, 0):
        hands[1].call("one", word)
    return hands, 1


def with_places_given():
    hands = group([3, 5, 6])
    hands[3].call("one", 1)
    hands[5].call("one", 2)
    tell(hands, 5, 3)
    hands[3].call("one", 3)
    return hands, 3


def with_causes_not_yet_covered():
    hands = group([0, 1, 2])
    hands[0].call("own", 1)
    tell(hands, 0, 1)
    hands[1].call("heard", 2)
    hands[2].hear(hands[1].letter(1, 1))
    return hands, 2


def having_let_go():
    hands = group([0, 1])
    hands[0].call("heard", 1)
    hands[1].call("one", 2)
    go_rounds(hands)
    hands[1].call("own", 3)
    return hands, 1


def suspecting():
    hands = group([0, 1, 2], [9])
    hands[1].suspect(set_of([0, 1, 62]))
    return hands, 1


def with_wishes_noted():
    hands = group([0, 1, 2], [8, 9])
    hands[8].come()
    hands[9].come()
    tell(hands, 8, 1)
    tell(hands, 9, 1)
    return hands, 1


def with_wishes_noted_and_out():
    hands, me = with_wishes_noted()
    hands[me].leave()
    hands[0].renew()
    go_rounds(hands, [0, 1, 2])
    return hands, me


def having_renewed():
    hands = group([0, 1, 2])
    hands[1].call("one", 5)
    hands[1].renew(7)
    return hands, 1


def with_reports():
    hands = group([0, 1, 2, 3])
    hands[2].call("own", 5)
    hands[0].leave()
    hands[1].renew()
    for other in (2, 0):
        tell(hands, 1, other)
        tell(hands, other, 1)
    return hands, 1


def with_a_yes_of_its_own():
    hands, me = with_reports()
    tell(hands, me, 3)
    tell(hands, 3, me)
    return hands, me


def with_a_yes_of_another():
    hands = with_a_yes_of_its_own()[0]
    tell(hands, 1, 3)
    return hands, 3


def with_a_yes_and_a_greater_ballot():
    hands = with_a_yes_of_another()[0]
    hands[2].renew(5)
    tell(hands, 2, 3)
    return hands, 3


def with_a_report_that_brings_a_yes():
    hands = with_a_yes_of_another()[0]
    hands[2].renew(5)
    hands[2].suspect(set_of([1]))
    tell(hands, 2, 3)
    tell(hands, 3, 2)
    return hands, 2


def stopped_by_another():
    hands = group([0, 1, 2])
    hands[1].call("one", 4)
    hands[0].renew()
    tell(hands, 0, 1)
    return hands, 1


def out_by_a_plan():
    hands = group([0, 1, 2])
    hands[1].call("heard", 4)
    hands[1].leave()
    go_round(hands)
    hands[0].renew()
    go_round(hands)
    go_round(hands)
    return hands, 1


def left_out():
    hands = group([0, 1, 2])
    hands[2].call("own", 4)
    hands[0].suspect(set_of([2]))
    hands[0].renew()
    go_rounds(hands, [0, 1])
    return hands, 2


def out_without_a_plan():
    hands = left_out()[0]
    hands[1].renew()
    go_rounds(hands, [0, 1])
    tell(hands, 0, 2)
    hands[2].come()
    return hands, 2


def in_again_with_strays():
    hands = out_without_a_plan()[0]
    hands[0].call("one", 9)
    hands[0].suspect(0)
    go_round(hands)
    hands[0].renew()
    go_rounds(hands)
    hands[2].call("one", 11)
    return hands, 2


def stray_and_out_again():
    hands = in_again_with_strays()[0]
    hands[2].leave()
    hands[1].renew()
    go_rounds(hands)
    return hands, 2


def having_heard_of_a_newer_list():
    hands = group([0, 1], [9])
    for _ in range(3):
        hands[1].renew()
        go_rounds(hands, [0, 1])
    tell(hands, 0, 9)
    return hands, 9


def late_in_its_list():
    hands = group([0, 1, 2])
    hands[0].suspect(set_of([2]))
    hands[0].renew()
    tell(hands, 0, 1)
    tell(hands, 1, 0)
    hands[2].call("own", 1)
    return hands, 2


def in_a_list_that_came_by_a_plan():
    hands = group([0, 1], [9])
    hands[9].come()
    hands[0].call("one", 3)
    tell(hands, 9, 0)
    hands[0].renew()
    go_round(hands, [0, 1])
    go_round(hands, [0, 1])
    return hands, 0


SCENES = (
    fresh, other_number_and_room, never_in, wishing_to_come, wanting_to_leave, with_calls_of_all_kinds,
    with_a_full_room, with_places_given, with_causes_not_yet_covered, having_let_go, suspecting, with_wishes_noted,
    with_wishes_noted_and_out, having_renewed, with_reports, with_a_yes_of_its_own, with_a_yes_of_another,
    with_a_yes_and_a_greater_ballot, with_a_report_that_brings_a_yes, stopped_by_another, out_by_a_plan, left_out,
    out_without_a_plan, in_again_with_strays, stray_and_out_again, having_heard_of_a_newer_list, late_in_its_list,
    in_a_list_that_came_by_a_plan,
)


class Life:
    """Random deeds of the hands of a group."""

    def __init__(self, seed, hands):
        self.chance = random.Random(seed)
        self.hands = hands
        self.letters = []

    def some_hands(self):
        return set_of([hand for hand in self.hands if self.chance.random() < 0.3])

    def live(self, many, weights=(20, 25, 45, 3, 5, 2, 6, 0)):
        for deed in self.chance.choices(DEEDS, weights, k=many):
            hand = self.hands[self.chance.choice(sorted(self.hands))]
            try:
                self.do(deed, hand)
            except (Held, IsIn, NotIn, Stopped):
                pass

    def do(self, deed, hand):
        if deed == "call":
            hand.call(self.chance.choice(["own", "heard", "one"]), self.chance.randrange(-9, 9))
        elif deed == "tell":
            piece = [] if self.chance.random() < 0.7 else [self.chance.randrange(4), self.chance.randrange(4)]
            self.letters.append(hand.letter(*piece))
        elif deed == "hear" and self.letters:
            back = self.chance.randrange(min(len(self.letters), self.chance.choice([6, 60])))
            hand.hear(self.letters[len(self.letters) - 1 - back])
        elif deed == "suspect":
            hand.suspect(self.some_hands())
        elif deed == "renew":
            hand.renew(self.chance.choice([1, 2, 10 ** 9]))
        elif deed in ("leave", "come", "save"):
            getattr(hand, deed)()


class Saving(unittest.TestCase):
    def each_scene(self, check):
        for scene in SCENES:
            with self.subTest(scene=scene.__name__):
                hands, me = scene()
                check(hands, me, hands[me])

    def test_a_tuple_of_plain_values(self):
        def check(hands, me, hand):
            self.assertIs(type(saved(hand)), tuple)
            self.assertTrue(is_plain(saved(hand)))

        self.each_scene(check)

    def test_saving_changes_nothing(self):
        def check(hands, me, hand):
            before = state(hand)
            value = saved(hand)
            self.assertEqual(state(hand), before)
            self.assertEqual(saved(hand), value)

        self.each_scene(check)

    def test_read_back_and_saved_again(self):
        def check(hands, me, hand):
            value = saved(hand)
            shown = repr(value)
            back = read_back(value)
            self.assertIs(type(back), Hand)
            self.assertEqual(state(back), state(hand))
            self.assertEqual(saved(back), value)
            self.assertTrue(is_plain(saved(back)))
            self.assertEqual(repr(value), shown)

        self.each_scene(check)

    def test_unlike_hands_are_saved_unlike(self):
        values = []
        self.each_scene(lambda hands, me, hand: values.append(saved(hand)))
        self.assertEqual(len(set(values)), len(SCENES))

    def test_asked_and_told_the_same(self):
        deeds = (("call", "one", 3), ("call", "none", 3), ("call", "own", 10 ** 60), ("leave",), ("come",),
                 ("call", "heard", -1), ("letter", 1, 1), ("renew", 3), ("renew",), ("call", "own", 1),
                 ("suspect", 3), ("leave",), ("come",))

        def check(hands, me, hand):
            hands[me] = Pair(self, hand)
            for deed in deeds:
                outcome(hands[me], deed[0], deed[1:])
            go_rounds(hands)

        self.each_scene(check)

    def test_rounds_come_to_the_same(self):
        def check(hands, me, hand):
            hands[me] = Pair(self, hand)
            go_rounds(hands)
            self.assertIsNone(fault([(each, hands[each].events()) for each in hands]))

        self.each_scene(check)

    def test_any_life_behind_it_is_the_same(self):
        def check(hands, me, hand):
            hands[me] = Pair(self, hand)
            Life(seed, hands).live(80)

        for seed in range(6):
            self.each_scene(check)

    def test_what_is_done_to_the_saved_one_changes_only_it(self):
        def check(hands, me, hand):
            value, before = saved(hand), state(hand)
            shown = repr(value)
            back = read_back(value)
            Life(1, hands).live(150)
            hand.suspect(set_of([60]))
            self.assertNotEqual(saved(hand), value)
            self.assertEqual(repr(value), shown)
            self.assertEqual(state(back), before)
            self.assertEqual(saved(back), value)
            self.assertEqual(state(read_back(value)), before)

        self.each_scene(check)

    def test_what_is_done_to_the_one_read_back_changes_only_it(self):
        def check(hands, me, hand):
            value, before = saved(hand), state(hand)
            shown = repr(value)
            hands[me] = read_back(value)
            other = read_back(value)
            Life(2, hands).live(150)
            hands[me].suspect(set_of([60]))
            self.assertNotEqual(saved(hands[me]), value)
            self.assertEqual(repr(value), shown)
            self.assertEqual(state(hand), before)
            self.assertEqual(saved(hand), value)
            self.assertEqual(state(other), before)

        self.each_scene(check)

    def test_lists_and_dicts_told_are_the_askers_own(self):
        def check(hands, me, hand):
            back = read_back(saved(hand))
            before = state(back)
            for told in (back.events(), back.kept(), back.places(), back.strays()):
                told.append("more")
            back.taken()[7] = 7
            self.assertEqual(state(back), before)
            self.assertEqual(state(hand), before)

        self.each_scene(check)


class Scenes(unittest.TestCase):
    """That the scenes are what their names say."""

    def test_calls(self):
        hands, me = with_a_full_room()
        with self.assertRaises(Held) as caught:
            read_back(saved(hands[me])).call("own", 1)
        self.assertEqual((caught.exception.many, caught.exception.room), (3, 3))
        hands, me = with_places_given()
        self.assertEqual(read_back(saved(hands[me])).places(), [(1, 3, 1), (1, 5, 1), (1, 3, 2)])
        hands, me = with_causes_not_yet_covered()
        self.assertEqual(read_back(saved(hands[me])).kept(), [(1, 1, 1)])

    def test_stopped(self):
        hands, me = with_reports()
        back = read_back(saved(hands[me]))
        self.assertEqual((back.stopped(), back.standing()), ((1, 1), (1, 15)))
        with self.assertRaises(Stopped) as caught:
            back.call("own", 1)
        self.assertEqual(caught.exception.ballot, (1, 1))
        # The reports of 0, 1 and 2 are kept: those of more than half, once 3 is doubted.
        self.assertEqual(back.suspect(set_of([3])), [])
        hands[2].hear(back.letter())
        hands[0].hear(back.letter())
        back.hear(hands[2].letter())
        self.assertEqual(back.hear(hands[0].letter()),
                         [("take", (1, 2, 1), "own", 5, (), "cut"), ("list", 2, 6, 7, 0)])

    def test_votes(self):
        hands, me = with_a_yes_of_another()
        back = read_back(saved(hands[me]))
        self.assertEqual(back.stopped(), (1, 1))
        # Two of four said yes, so one more is enough.
        tell(hands, 1, 2)
        self.assertEqual(back.hear(hands[2].letter())[-1][:2], ("list", 2))

    def test_wishes(self):
        hands, me = with_wishes_noted()
        back = read_back(saved(hands[me]))
        back.suspect(set_of([0, 2, 9]))
        back.renew()
        hands[0].hear(back.letter())
        back.hear(hands[0].letter())
        hands[0].hear(back.letter())
        self.assertEqual(back.hear(hands[0].letter()), [("list", 2, set_of([0, 1, 8]), 3, set_of([8]))])
        hands, me = with_wishes_noted_and_out()
        self.assertIsNone(read_back(saved(hands[me])).standing())

    def test_away(self):
        hands, me = out_by_a_plan()
        back = read_back(saved(hands[me]))
        self.assertEqual((back.standing(), back.book()), (None, ((1, 1, 1, "heard", 4),)))
        late = Hand(0, 7)
        self.assertEqual(late.hear(back.letter())[-1], ("list", 2, 5, 7, 0))
        hands, me = out_without_a_plan()
        late = Hand(0, 7)
        self.assertEqual(late.hear(read_back(saved(hands[me])).letter()), [])

    def test_strays(self):
        for scene in (in_again_with_strays, stray_and_out_again):
            hands, me = scene()
            self.assertEqual(read_back(saved(hands[me])).strays(), [(1, 2, 1)])
        self.assertEqual(hands[me].standing(), None)

    def test_newer_lists(self):
        hands, me = having_heard_of_a_newer_list()
        late = group([0, 1], [9])
        late[9].come()
        tell(late, 9, 0)
        late[0].renew()
        go_rounds(late, [0, 1])
        self.assertEqual(late[0].standing(), (2, set_of([0, 1, 9])))
        back = read_back(saved(hands[me]))
        self.assertEqual(back.hear(late[0].letter()), [])
        self.assertIsNone(back.standing())


class Lives(unittest.TestCase):
    """Groups whose hands are saved and read back at any time."""

    def lives(self, seeds, live):
        for seed in seeds:
            with self.subTest(seed=seed):
                chance = random.Random(seed)
                names = sorted(chance.sample(range(63), chance.choice([1, 2, 3, 4, 5])))
                first = chance.sample(names, chance.randint(1, len(names)))
                others = [name for name in names if name not in first]
                live(seed, group(first, others, chance.choice([0, 1, 10 ** 18]), chance.choice([1, 3, 8])))

    def check_no_fault(self, hands):
        self.assertIsNone(fault([(me, hands[me].events()) for me in hands]))

    def test_saved_or_not_is_the_same(self):
        def live(seed, hands):
            for me in hands:
                hands[me] = Pair(self, hands[me])
            Life(seed, hands).live(250, (20, 25, 45, 3, 5, 2, 6, 10))
            self.check_no_fault(hands)

        self.lives(range(40), live)

    def save_all(self, hands):
        for me in hands:
            hands[me] = read_back(saved(hands[me]))

    def test_calm(self):
        def live(seed, hands):
            life = Life(seed, hands)
            for _ in range(6):
                life.live(50)
                self.save_all(hands)
            for me in hands:
                hands[me].suspect(0)
            for _ in range(4):
                go_round(hands)
                self.save_all(hands)
            self.check_calm(hands)
            self.check_no_fault(hands)

        self.lives(range(100, 140), live)

    def check_calm(self, hands):
        standing = [hand for hand in hands.values() if hand.standing() is not None]
        one = standing[0]
        self.assertEqual(one.standing()[1], set_of([me for me in hands if hands[me].standing() is not None]))
        for hand in standing:
            self.assertEqual((hand.standing(), hand.stopped(), hand.kept(), hand.taken(), hand.book()),
                             (one.standing(), None, [], one.taken(), one.book()))


if __name__ == "__main__":
    unittest.main()
