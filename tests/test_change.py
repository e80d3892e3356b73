import random
import unittest

from groupcall.change import Change
from groupcall.sets import hands_of, set_of

THREE = set_of([0, 2, 5])
FOUR = set_of([0, 2, 5, 9])


def changes_of(hands):
    return {hand: Change(hand, hands) for hand in hands_of(hands)}


def tell(changes, teller, hearer, report=None):
    changes[hearer].receive(changes[teller].message(report))


def state(change):
    return (change.ballot, change.yes, change.votes, change.settled(), change.message("r"))


def no_make(reports):
    raise AssertionError("make is not to be called")


def kept(change, doubts):
    """The reports that it proposes with; only for a change that is not asked for anything more."""
    asked = []
    change.propose(doubts, lambda reports: asked.append(reports) or "plan")
    return asked


def is_plain(value):
    if type(value) is tuple:
        return all(is_plain(part) for part in value)
    return value is None or type(value) in (int, str, bool)


class AtFirst(unittest.TestCase):
    def test_it_has_no_ballot_no_yes_no_votes_no_plan(self):
        change = Change(2, THREE)
        self.assertEqual((change.ballot, change.yes, change.votes, change.settled()), (None, None, 0, None))

    def test_it_does_not_propose(self):
        for hands in (set_of([2]), THREE):
            change = Change(2, hands)
            self.assertIs(change.propose(0, no_make), False)
            self.assertIs(change.propose(hands, no_make), False)
            self.assertEqual((change.ballot, change.yes, change.votes, change.settled()), (None, None, 0, None))

    def test_messages_of_others_at_first_bring_nothing(self):
        changes = changes_of(THREE)
        tell(changes, 0, 2)
        tell(changes, 5, 2, "r5")
        self.assertEqual(state(changes[2]), state(Change(2, THREE)))


class Begin(unittest.TestCase):
    def test_from_none(self):
        for more in (1, 2, 7, 10 ** 9):
            change = Change(2, THREE)
            self.assertIsNone(change.begin(more, "r"))
            self.assertEqual((change.ballot, change.yes, change.votes), ((more, 2), None, 0))

    def test_from_an_own_ballot(self):
        change = Change(2, THREE)
        change.begin(1, "r")
        change.begin(1, "r")
        self.assertEqual(change.ballot, (2, 2))
        change.begin(10 ** 9, "r")
        self.assertEqual(change.ballot, (10 ** 9 + 2, 2))

    def test_from_anothers_ballot(self):
        changes = changes_of(THREE)
        changes[5].begin(7, "r5")
        tell(changes, 5, 0, "r5")
        self.assertEqual(changes[0].ballot, (7, 5))
        changes[0].begin(3, "r0")
        self.assertEqual(changes[0].ballot, (10, 0))

    def test_only_the_own_report_is_kept(self):
        changes = changes_of(THREE)
        changes[0].begin(1, "first")
        for hand in (2, 5):
            tell(changes, 0, hand)
            tell(changes, hand, 0, "r")
        changes[0].begin(1, "second")
        self.assertIs(changes[0].propose(0, no_make), False)
        self.assertIs(changes[0].propose(THREE, no_make), False)
        tell(changes, 0, 2)
        tell(changes, 2, 0, "r2")
        self.assertEqual(kept(changes[0], set_of([5])), [["second", "r2"]])

    def test_the_own_yes_is_kept_with_the_own_report(self):
        changes = changes_of(THREE)
        changes[0].begin(1, "r0")
        tell(changes, 0, 2)
        tell(changes, 2, 0, "r2")
        self.assertIs(changes[0].propose(set_of([5]), lambda reports: "plan"), True)
        changes[0].begin(1, "r0")
        tell(changes, 0, 5)
        tell(changes, 5, 0, "r5")
        self.assertIs(changes[0].propose(set_of([2]), no_make), True)
        self.assertEqual(changes[0].yes, ((2, 0), "plan"))

    def test_the_own_yes_votes_and_plan_stay(self):
        changes = changes_of(THREE)
        changes[0].begin(1, "r0")
        tell(changes, 0, 2)
        tell(changes, 2, 0, "r2")
        changes[0].propose(set_of([5]), lambda reports: "plan")
        tell(changes, 0, 2)
        changes[2].begin(4, "r2")
        self.assertEqual((changes[2].ballot, changes[2].yes, changes[2].votes, changes[2].settled()),
                         ((5, 2), ((1, 0), "plan"), set_of([0, 2]), "plan"))


class Messages(unittest.TestCase):
    def test_they_are_plain_tuples(self):
        changes = changes_of(THREE)
        told = [changes[0].message(None)]
        changes[0].begin(1, ("r", (0, True)))
        told.append(changes[0].message(("r", (0, True))))
        tell(changes, 0, 2)
        tell(changes, 2, 0, ("r", (2, None)))
        changes[0].propose(set_of([5]), lambda reports: ("plan", tuple(reports)))
        told.append(changes[0].message(("r", (0, True))))
        for message in told:
            self.assertIs(type(message), tuple)
            self.assertTrue(is_plain(message))
        self.assertEqual(len(set(told)), 3)

    def test_telling_one_changes_nothing(self):
        changes = changes_of(THREE)
        changes[0].begin(1, "r0")
        before = state(changes[0])
        changes[0].message("another")
        self.assertEqual(state(changes[0]), before)
        self.assertEqual(kept(changes[0], THREE), [])
        tell(changes, 0, 2)
        tell(changes, 2, 0, "r2")
        self.assertEqual(kept(changes[0], set_of([5])), [["r0", "r2"]])

    def test_receiving_answers_nothing(self):
        changes = changes_of(THREE)
        changes[0].begin(1, "r0")
        self.assertIsNone(changes[2].receive(changes[0].message("r0")))

    def test_an_own_one_brings_nothing(self):
        changes = changes_of(THREE)
        changes[0].begin(1, "r0")
        changes[0].receive(changes[0].message("another"))
        tell(changes, 0, 2)
        tell(changes, 2, 0, "r2")
        self.assertEqual(kept(changes[0], set_of([5])), [["r0", "r2"]])


class Ballots(unittest.TestCase):
    def received(self, own, other):
        """The ballot of hand 2 that had own, having heard one that had other."""
        changes = {hand: Change(hand, set_of([0, 2, 5])) for hand in (0, 2, 5)}
        for ballot, hearer in ((own, 2), (other, 0 if other[1] == 5 else 5)):
            if ballot is not None:
                teller = Change(ballot[1], THREE)
                teller.begin(ballot[0], "r")
                changes[hearer].receive(teller.message("r"))
        teller = 0 if other[1] == 5 else 5
        self.assertEqual((changes[2].ballot, changes[teller].ballot), (own, other))
        tell(changes, teller, 2)
        return changes[2].ballot

    def test_none_is_less_than_every_ballot(self):
        self.assertEqual(self.received(None, (1, 0)), (1, 0))
        self.assertEqual(self.received(None, (1, 5)), (1, 5))

    def test_the_greater_round(self):
        self.assertEqual(self.received((1, 5), (2, 0)), (2, 0))
        self.assertEqual(self.received((2, 0), (1, 5)), (2, 0))
        self.assertEqual(self.received((9, 5), (10, 0)), (10, 0))
        self.assertEqual(self.received((10 ** 9, 0), (9, 5)), (10 ** 9, 0))

    def test_of_like_rounds_the_greater_hand(self):
        self.assertEqual(self.received((3, 0), (3, 5)), (3, 5))
        self.assertEqual(self.received((3, 5), (3, 0)), (3, 5))
        self.assertEqual(self.received((3, 5), (3, 5)), (3, 5))

    def test_a_message_with_no_ballot_leaves_it(self):
        changes = changes_of(THREE)
        changes[0].begin(1, "r0")
        tell(changes, 2, 0)
        self.assertEqual(changes[0].ballot, (1, 0))

    def test_a_greater_one_makes_the_reports_go(self):
        changes = changes_of(THREE)
        changes[0].begin(1, "r0")
        tell(changes, 0, 2)
        late = changes[2].message("r2")
        changes[0].receive(late)
        changes[5].begin(2, "r5")
        tell(changes, 5, 0)
        self.assertEqual(changes[0].ballot, (2, 5))
        self.assertIs(changes[0].propose(set_of([5]), no_make), False)
        changes[0].begin(1, "again")
        changes[0].receive(late)
        self.assertIs(changes[0].propose(THREE, no_make), False)

    def test_a_lesser_one_leaves_the_reports(self):
        changes = changes_of(THREE)
        changes[0].begin(2, "r0")
        tell(changes, 0, 2)
        tell(changes, 2, 0, "r2")
        changes[5].begin(1, "r5")
        tell(changes, 5, 0, "r5")
        self.assertEqual(changes[0].ballot, (2, 0))
        self.assertEqual(kept(changes[0], set_of([5])), [["r0", "r2"]])


class Yeses(unittest.TestCase):
    def proposed(self, hands=FOUR, plan="plan"):
        """Changes of which hand 0's said yes to a plan by the ballot (1, 0), and all others know this ballot."""
        changes = changes_of(hands)
        changes[0].begin(1, "r0")
        for hand in hands_of(hands)[1:]:
            tell(changes, 0, hand)
            tell(changes, hand, 0, f"r{hand}")
        self.assertIs(changes[0].propose(0, lambda reports: plan), True)
        return changes

    def test_a_yes_of_the_own_ballot_becomes_the_own_one(self):
        changes = self.proposed()
        self.assertEqual((changes[0].yes, changes[0].votes), (((1, 0), "plan"), 1))
        tell(changes, 0, 2)
        self.assertEqual((changes[2].yes, changes[2].votes), (((1, 0), "plan"), set_of([0, 2])))

    def test_also_where_the_ballot_comes_with_it(self):
        changes = self.proposed(THREE)
        fresh = Change(5, THREE)
        fresh.receive(changes[0].message("r0"))
        self.assertEqual((fresh.ballot, fresh.yes, fresh.votes), ((1, 0), ((1, 0), "plan"), set_of([0, 5])))

    def test_the_told_votes_come_with_it(self):
        changes = self.proposed()
        tell(changes, 0, 2)
        tell(changes, 2, 5)
        self.assertEqual((changes[5].yes, changes[5].votes), (((1, 0), "plan"), set_of([0, 2, 5])))

    def test_votes_are_joined_where_the_yeses_are_of_one_ballot(self):
        changes = self.proposed()
        tell(changes, 0, 2)
        tell(changes, 0, 5)
        self.assertEqual(changes[5].votes, set_of([0, 5]))
        tell(changes, 2, 5)
        self.assertEqual(changes[5].votes, set_of([0, 2, 5]))
        tell(changes, 0, 5)
        self.assertEqual(changes[5].votes, set_of([0, 2, 5]))

    def test_votes_are_joined_also_where_the_own_ballot_is_greater_by_now(self):
        changes = self.proposed()
        tell(changes, 0, 2)
        tell(changes, 0, 5)
        changes[5].begin(3, "r5")
        tell(changes, 2, 5)
        self.assertEqual((changes[5].ballot, changes[5].yes, changes[5].votes),
                         ((4, 5), ((1, 0), "plan"), set_of([0, 2, 5])))

    def test_votes_are_joined_also_where_the_told_ballot_is_greater(self):
        changes = self.proposed()
        tell(changes, 0, 2)
        tell(changes, 0, 5)
        changes[2].begin(3, "r2")
        tell(changes, 2, 5)
        self.assertEqual((changes[5].ballot, changes[5].yes, changes[5].votes),
                         ((4, 2), ((1, 0), "plan"), set_of([0, 2, 5])))

    def test_a_yes_of_a_lesser_ballot_than_the_own_one_is_not_said(self):
        changes = self.proposed()
        changes[5].begin(1, "r5")
        tell(changes, 0, 5)
        self.assertEqual((changes[5].ballot, changes[5].yes, changes[5].votes), ((2, 5), None, 0))

    def test_a_yes_of_a_lesser_ballot_than_the_told_one_is_not_said(self):
        changes = self.proposed()
        changes[0].begin(1, "r0")
        tell(changes, 0, 5)
        self.assertEqual((changes[5].ballot, changes[5].yes, changes[5].votes), ((2, 0), None, 0))

    def test_a_message_without_a_yes_leaves_the_own_one(self):
        changes = self.proposed()
        tell(changes, 0, 2)
        tell(changes, 5, 2)
        tell(changes, 5, 0)
        self.assertEqual((changes[2].yes, changes[2].votes), (((1, 0), "plan"), set_of([0, 2])))
        self.assertEqual((changes[0].yes, changes[0].votes), (((1, 0), "plan"), set_of([0])))

    def second(self):
        """Hand 0 said yes by (1, 0) to one plan; 5, by (2, 5) and without knowing it, to another one."""
        changes = self.proposed(FOUR, "first")
        changes[5].begin(1, "r5")
        for hand in (2, 9):
            tell(changes, 5, hand)
            tell(changes, hand, 5, f"r{hand}")
        self.assertIs(changes[5].propose(set_of([0]), lambda reports: "second"), True)
        return changes

    def test_a_yes_of_a_greater_ballot_takes_the_place_of_the_own_one(self):
        changes = self.second()
        tell(changes, 5, 0)
        self.assertEqual((changes[0].ballot, changes[0].yes, changes[0].votes),
                         ((2, 5), ((2, 5), "second"), set_of([0, 5])))

    def test_a_yes_of_a_lesser_ballot_leaves_the_own_one(self):
        changes = self.second()
        tell(changes, 0, 5)
        self.assertEqual((changes[5].ballot, changes[5].yes, changes[5].votes),
                         ((2, 5), ((2, 5), "second"), set_of([5])))

    def test_a_yes_of_a_greater_ballot_that_is_not_the_own_one_is_not_said(self):
        changes = self.second()
        changes[9].begin(1, "r9")
        changes[0].receive(changes[9].message("r9"))
        self.assertEqual(changes[0].ballot, (3, 9))
        tell(changes, 5, 0)
        self.assertEqual((changes[0].yes, changes[0].votes), (((1, 0), "first"), set_of([0])))


class Reports(unittest.TestCase):
    def begun(self):
        changes = changes_of(FOUR)
        changes[2].begin(1, "r2")
        for hand in (0, 5, 9):
            tell(changes, 2, hand)
        return changes

    def test_by_hand_rising(self):
        changes = self.begun()
        for hand in (9, 0, 5):
            tell(changes, hand, 2, f"r{hand}")
        self.assertEqual(kept(changes[2], 0), [["r0", "r2", "r5", "r9"]])

    def test_told_again_they_are_kept_in_the_place_of_the_former(self):
        changes = self.begun()
        for hand in (9, 0, 5):
            tell(changes, hand, 2, "early")
        tell(changes, 0, 2, "late")
        self.assertEqual(kept(changes[2], 0), [["late", "r2", "early", "early"]])

    def test_not_where_the_told_ballot_is_another_one(self):
        changes = changes_of(FOUR)
        changes[2].begin(1, "r2")
        for hand in (0, 5):
            tell(changes, 2, hand)
            tell(changes, hand, 2, f"r{hand}")
        tell(changes, 9, 2, "without ballot")
        self.assertEqual(kept(changes[2], 0), [])
        tell(changes, 2, 9)
        tell(changes, 9, 2, "with it")
        self.assertEqual(kept(changes[2], 0), [["r0", "r2", "r5", "with it"]])

    def test_not_where_the_ballots_hand_is_another_one(self):
        changes = self.begun()
        tell(changes, 0, 5, "r0")
        tell(changes, 9, 5, "r9")
        self.assertEqual(kept(changes[5], FOUR), [])
        changes[5].begin(1, "r5")
        self.assertEqual(kept(changes[5], FOUR), [])

    def test_they_may_be_any_value(self):
        changes = changes_of(set_of([0, 1, 2]))
        changes[1].begin(1, None)
        for hand, report in ((0, 0), (2, ())):
            tell(changes, 1, hand)
            tell(changes, hand, 1, report)
        self.assertEqual(kept(changes[1], 0), [[0, None, ()]])

    def test_what_is_done_to_lists_and_dicts_elsewhere_changes_nothing_here(self):
        changes = changes_of(set_of([0, 1]))
        own, other = ["own", {"a": [1]}], {"b": ([2],)}
        changes[0].begin(1, own)
        tell(changes, 0, 1)
        message = changes[1].message(other)
        own[1]["a"].append(9)
        other["b"][0].append(9)
        changes[0].receive(message)
        message[4]["b"][0].append(9)
        plan = [3]
        asked = []
        changes[0].propose(0, lambda reports: asked.append(reports) or plan)
        plan.append(9)
        self.assertEqual(asked, [[["own", {"a": [1]}], {"b": ([2],)}]])
        tell(changes, 0, 1)
        tell(changes, 1, 0)
        for change in changes.values():
            change.settled().append(9)
            self.assertEqual(change.settled(), [3])


class Propose(unittest.TestCase):
    def gathered(self, hands, some, me=0):
        changes = changes_of(hands)
        changes[me].begin(1, f"r{me}")
        for hand in some:
            tell(changes, me, hand)
            tell(changes, hand, me, f"r{hand}")
        return changes

    def refused(self, changes, me, doubts):
        before = state(changes[me])
        self.assertIs(changes[me].propose(doubts, no_make), False)
        self.assertEqual(state(changes[me]), before)

    def done(self, changes, me, doubts, reports):
        asked = []
        self.assertIs(changes[me].propose(doubts, lambda told: asked.append(told) or "plan"), True)
        self.assertEqual(asked, [reports])
        self.assertEqual((changes[me].yes, changes[me].votes), ((changes[me].ballot, "plan"), set_of([me])))

    def test_where_the_ballots_hand_is_another_one(self):
        changes = self.gathered(THREE, [2, 5])
        self.refused(changes, 2, 0)
        self.refused(changes, 5, THREE)

    def test_where_the_yes_is_of_this_ballot_already(self):
        changes = self.gathered(THREE, [2, 5])
        self.done(changes, 0, 0, ["r0", "r2", "r5"])
        self.refused(changes, 0, 0)
        tell(changes, 2, 0, "r2")
        self.refused(changes, 0, 0)

    def test_where_a_hand_that_is_not_doubted_has_no_report(self):
        changes = self.gathered(FOUR, [2, 9])
        self.refused(changes, 0, 0)
        self.refused(changes, 0, set_of([0, 2, 9]))
        self.refused(changes, 0, set_of([1, 62]))
        self.done(changes, 0, set_of([5]), ["r0", "r2", "r9"])

    def test_reports_of_doubted_hands_count_like_others(self):
        changes = self.gathered(FOUR, [2, 9])
        self.done(changes, 0, FOUR, ["r0", "r2", "r9"])

    def test_with_just_half_and_with_more(self):
        changes = self.gathered(FOUR, [2])
        self.refused(changes, 0, FOUR)
        self.refused(changes, 0, set_of([5, 9]))
        tell(changes, 0, 5)
        tell(changes, 5, 0, "r5")
        self.done(changes, 0, set_of([9, 40]), ["r0", "r2", "r5"])
        changes = self.gathered(set_of([0, 1]), [])
        self.refused(changes, 0, set_of([1]))
        changes = self.gathered(THREE, [])
        self.refused(changes, 0, set_of([2, 5]))
        changes = self.gathered(THREE, [5])
        self.done(changes, 0, set_of([2]), ["r0", "r5"])

    def test_alone(self):
        changes = self.gathered(set_of([7]), [], 7)
        self.done(changes, 7, 0, ["r7"])
        self.assertEqual(changes[7].settled(), "plan")

    def test_a_make_that_fails_changes_nothing(self):
        changes = self.gathered(THREE, [2, 5])
        before = state(changes[0])
        with self.assertRaises(AssertionError):
            changes[0].propose(0, no_make)
        self.assertEqual(state(changes[0]), before)
        self.done(changes, 0, 0, ["r0", "r2", "r5"])

    def test_the_plan_of_the_greatest_yes_kept(self):
        hands = set_of([0, 1, 2, 3, 4])
        changes = self.gathered(hands, [1, 2])
        changes[0].propose(set_of([3, 4]), lambda reports: "first")
        changes[1].begin(1, "r1")
        for hand in (2, 3):
            tell(changes, 1, hand)
            tell(changes, hand, 1, "r")
        changes[1].propose(set_of([0, 4]), lambda reports: "second")
        self.assertEqual((changes[0].yes, changes[1].yes), (((1, 0), "first"), ((2, 1), "second")))
        changes[4].begin(3, "r4")
        for hand in (0, 1):
            tell(changes, 4, hand)
            tell(changes, hand, 4, "r")
        self.assertIs(changes[4].propose(set_of([2, 3]), no_make), True)
        self.assertEqual((changes[4].yes, changes[4].votes), (((3, 4), "second"), set_of([4])))

    def test_in_whatever_order_the_yeses_came(self):
        hands = set_of([0, 1, 2, 3, 4])
        for order in ((0, 1), (1, 0)):
            changes = self.gathered(hands, [2, 3])
            changes[0].propose(set_of([1, 4]), lambda reports: "round 1")
            changes[1].begin(10, "r1")
            for hand in (2, 3):
                tell(changes, 1, hand)
                tell(changes, hand, 1, "r")
            changes[1].propose(set_of([0, 4]), lambda reports: "round 10")
            changes[4].begin(20, "r4")
            for hand in order:
                tell(changes, 4, hand)
                tell(changes, hand, 4, "r")
            self.assertIs(changes[4].propose(set_of([2, 3]), no_make), True)
            self.assertEqual(changes[4].yes, ((20, 4), "round 10"))

    def test_a_yes_kept_anew(self):
        changes = self.gathered(FOUR, [2, 5])
        early = changes[2].message("early")
        changes[0].propose(set_of([9]), lambda reports: "plan")
        tell(changes, 0, 2)
        changes[9].begin(2, "r9")
        for hand in (2, 5):
            tell(changes, 9, hand)
            tell(changes, hand, 9, "r")
        changes[9].receive(early)
        self.assertIs(changes[9].propose(set_of([0]), no_make), True)
        self.assertEqual(changes[9].yes, ((2, 9), "plan"))


class Settled(unittest.TestCase):
    def test_as_soon_as_more_than_half_voted(self):
        changes = changes_of(FOUR)
        changes[0].begin(1, "r0")
        for hand in (2, 5, 9):
            tell(changes, 0, hand)
            tell(changes, hand, 0, "r")
        changes[0].propose(0, lambda reports: "plan")
        tell(changes, 0, 2)
        self.assertEqual((changes[0].settled(), changes[2].settled()), (None, None))
        tell(changes, 2, 5)
        self.assertEqual(changes[5].settled(), "plan")
        tell(changes, 5, 0)
        self.assertEqual(changes[0].settled(), "plan")
        self.assertEqual((changes[2].settled(), changes[9].settled()), (None, None))

    def test_of_two_only_both(self):
        changes = changes_of(set_of([0, 1]))
        changes[0].begin(1, "r0")
        tell(changes, 0, 1)
        tell(changes, 1, 0, "r1")
        changes[0].propose(0, lambda reports: "plan")
        self.assertIsNone(changes[0].settled())
        tell(changes, 0, 1)
        self.assertEqual(changes[1].settled(), "plan")
        tell(changes, 1, 0)
        self.assertEqual(changes[0].settled(), "plan")

    def test_for_ever_and_the_change_goes_on(self):
        changes = changes_of(THREE)
        changes[0].begin(1, "r0")
        tell(changes, 0, 2)
        tell(changes, 2, 0, "r2")
        changes[0].propose(set_of([5]), lambda reports: "plan")
        tell(changes, 0, 2)
        changes[5].begin(5, "r5")
        tell(changes, 5, 2)
        self.assertEqual((changes[2].ballot, changes[2].settled()), ((5, 5), "plan"))
        tell(changes, 2, 5, "r2")
        self.assertIs(changes[5].propose(set_of([0]), no_make), True)
        tell(changes, 5, 2)
        self.assertEqual((changes[2].yes, changes[2].votes, changes[2].settled()),
                         (((5, 5), "plan"), set_of([2, 5]), "plan"))
        changes[2].begin(1, "r2")
        self.assertEqual((changes[2].ballot, changes[2].settled()), ((6, 2), "plan"))

    def test_a_plan_may_be_any_value_but_none(self):
        for plan in (0, "", (), False, (0, 1, 0, ())):
            change = Change(3, set_of([3]))
            change.begin(1, "r")
            change.propose(0, lambda reports: plan)
            self.assertEqual(change.settled(), plan)
            self.assertIsNotNone(change.settled())


class Plain:
    """A change, word by word as the document tells it; messages are its own."""

    def __init__(self, me, hands):
        self.me, self.hands, self.ballot, self.yes, self.votes = me, set(hands), None, None, set()
        self.kept, self.first = {}, None

    def begin(self, more, report):
        self.ballot = ((self.ballot[0] if self.ballot else 0) + more, self.me)
        self.kept = {self.me: (report, self.yes)}

    def message(self, report):
        return (self.me, self.ballot, self.yes, frozenset(self.votes), report)

    def receive(self, message):
        hand, ballot, yes, votes, report = message
        if hand == self.me:
            return
        if (ballot or (0, -1)) > (self.ballot or (0, -1)):
            self.ballot, self.kept = ballot, {}
        if yes and yes[0] == self.ballot and (self.yes is None or self.yes[0] < yes[0]):
            self.yes, self.votes = yes, set(votes) | {self.me}
        elif yes and self.yes and yes[0] == self.yes[0]:
            self.votes |= votes
        said = self.yes and self.yes[0] == self.ballot
        if ballot and ballot == self.ballot and ballot[1] == self.me and not said:
            self.kept[hand] = (report, yes)
        self.look()

    def propose(self, doubts, make):
        if not self.ballot or self.ballot[1] != self.me or (self.yes and self.yes[0] == self.ballot):
            return False
        if any(hand not in doubts and hand not in self.kept for hand in self.hands):
            return False
        if 2 * len(self.kept) <= len(self.hands):
            return False
        yeses = [yes for report, yes in self.kept.values() if yes]
        plan = max(yeses)[1] if yeses else make([self.kept[hand][0] for hand in sorted(self.kept)])
        self.yes, self.votes = (self.ballot, plan), {self.me}
        self.look()
        return True

    def look(self):
        if self.first is None and 2 * len(self.votes) > len(self.hands):
            self.first = self.yes[1]


class Traffic:
    """Changes of one set beside plain ones, whose messages come late, twice, in any order or never."""

    def __init__(self, test, seed):
        self.test = test
        self.chance = random.Random(seed)
        self.hands = sorted(self.chance.sample(range(63), self.chance.choice([1, 2, 3, 4, 5, 5, 6, 7, 7])))
        self.pairs = {hand: (Change(hand, set_of(self.hands)), Plain(hand, self.hands)) for hand in self.hands}
        self.messages = []
        self.answers = []
        self.settled = {}

    def begin(self, change, plain):
        more = self.chance.choice([1, 1, 2, 9])
        report = self.chance.randrange(1000)
        change.begin(more, report)
        plain.begin(more, report)

    def tell(self, change, plain):
        report = self.chance.randrange(1000)
        self.messages.append((change.message(report), plain.message(report)))

    def receive(self, change, plain):
        if self.messages:
            early = self.chance.random() < 0.2
            back = self.chance.randrange(len(self.messages) if early else min(6, len(self.messages)))
            told = self.messages[len(self.messages) - 1 - back]
            change.receive(told[0])
            plain.receive(told[1])

    def pass_on(self, teller, hearer):
        self.tell(*self.pairs[teller])
        self.pairs[hearer][0].receive(self.messages[-1][0])
        self.pairs[hearer][1].receive(self.messages[-1][1])
        self.check(*self.pairs[hearer])

    def attempt(self):
        """One hand begins, hears of some hands, proposes, and tells its yes to some hands."""
        me = self.chance.choice(self.hands)
        self.begin(*self.pairs[me])
        for hand in self.chance.sample(self.hands, len(self.hands) // 2 + 1):
            self.pass_on(me, hand)
            self.pass_on(hand, me)
        self.propose(*self.pairs[me])
        share = self.chance.choice([0, 0, 0.2, 0.6])
        for hand in self.hands:
            if self.chance.random() < share:
                self.pass_on(me, hand)

    def propose(self, change, plain):
        share = self.chance.choice([0.3, 1, 1])
        doubts = [hand for hand in self.hands if self.chance.random() < share]
        asked = []
        plan = ("plan", len(self.answers))
        done = change.propose(set_of(doubts), lambda reports: asked.append(("real", reports)) or plan)
        likewise = plain.propose(set(doubts), lambda reports: asked.append(("plain", reports)) or plan)
        self.test.assertIs(done, likewise)
        if asked:
            self.answers.append(plan)
            self.test.assertEqual([who for who, reports in asked], ["real", "plain"])
            self.test.assertEqual(asked[0][1], asked[1][1])

    def deed(self):
        pair = self.pairs[self.chance.choice(self.hands)]
        deed = self.chance.random()
        if deed < 0.02:
            self.begin(*pair)
        elif deed < 0.3:
            self.tell(*pair)
        elif deed < 0.8:
            self.receive(*pair)
        else:
            self.propose(*pair)
        self.check(*pair)

    def check(self, change, plain):
        self.test.assertEqual((change.ballot, change.yes, change.votes, change.settled()),
                              (plain.ballot, plain.yes, set_of(plain.votes), plain.first))
        if change.settled() is not None:
            self.test.assertIn(change.settled(), self.answers)
            self.settled[plain.me] = change.settled()
        self.test.assertEqual(change.settled(), self.settled.get(plain.me))
        self.test.assertLessEqual(len(set(self.settled.values())), 1)


class OnePlan(unittest.TestCase):
    def test_all_plans_settled_are_one(self):
        settled, several = 0, 0
        for seed in range(500):
            traffic = Traffic(self, seed)
            with self.subTest(seed=seed):
                for _ in range(12):
                    traffic.attempt()
                    for _ in range(traffic.chance.choice([0, 0, 5, 60])):
                        traffic.deed()
            settled += len(traffic.settled) > 1
            several += len(traffic.answers) > 1 and len(traffic.settled) > 1
        self.assertGreater(settled, 200)
        self.assertGreater(several, 25)


if __name__ == "__main__":
    unittest.main()
