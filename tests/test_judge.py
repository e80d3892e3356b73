import copy
import random
import unittest

from groupcall.errors import GroupError
from groupcall.hands import Hand
from groupcall.judge import fault
from groupcall.sets import has, set_of

ABC = set_of([0, 1, 2])
AB = set_of([0, 1])
FIRST = ("list", 1, ABC, 0, ABC)
NEXT = ("list", 2, ABC, ABC, 0)


def take(caller, count, kind="own", causes=(), number=1, word=5, why="ready"):
    return ("take", (number, caller, count), kind, word, causes, why)


def one(caller, count, causes=(), number=1):
    return take(caller, count, "one", causes, number, 5, "sure")


class Right(unittest.TestCase):
    def right(self, *told):
        self.assertIsNone(fault(list(told)))

    def test_no_histories_and_empty_ones(self):
        self.right()
        self.right((0, []), (5, []))

    def test_coming_and_going(self):
        self.right((0, [FIRST, NEXT, ("list", 3, ABC, ABC, 0), ("out", 3)]))
        self.right((0, [FIRST, ("out", 1), ("list", 9, 3, 2, 1), ("list", 10, 3, 3, 0), ("out", 10)]))
        self.right((5, [("list", 7, 33, 1, 32)]), (0, [("list", 6, 1, 0, 1), ("list", 7, 33, 1, 32)]))
        self.right((0, [("list", 0, 1, 0, 1), ("list", 1, 1, 1, 0)]))

    def test_takes(self):
        self.right((0, [FIRST, take(1, 1), take(0, 1, "heard", ((1, 1),)), take(1, 2), one(2, 1, ((0, 1), (1, 2)))]))
        self.right((0, [FIRST, take(1, 1), NEXT, take(1, 1, number=2)]))

    def test_own_calls_have_no_causes_to_wait_for(self):
        self.right((0, [FIRST, take(1, 1, "own", ((2, 7),))]))

    def test_no_rule_looks_at_a_why(self):
        self.right((0, [FIRST, take(1, 1, why="cut")]), (1, [FIRST, take(1, 1, why="ready")]),
                   (2, [FIRST, take(1, 1, why="nobody's")]))

    def test_other_orders_of_calls_that_are_not_one(self):
        self.right((0, [FIRST, take(1, 1), take(2, 1), NEXT]), (1, [FIRST, take(2, 1), take(1, 1), NEXT]))

    def test_one_that_was_left_out_took_less_or_others(self):
        self.right((0, [FIRST, one(1, 1), one(2, 1), take(0, 1), NEXT]), (1, [FIRST, one(1, 1)]),
                   (2, [FIRST, one(1, 1), take(0, 1), ("out", 1)]))
        self.right((0, [FIRST, one(1, 1), NEXT]), (2, [FIRST, take(2, 1), ("out", 1)]))

    def test_ones_on_record_by_one_that_was_left_out(self):
        self.right((2, [FIRST, one(1, 1), one(2, 1)]), (0, [FIRST, one(1, 1), one(2, 1), take(0, 1), NEXT]))

    def test_nothing_is_changed(self):
        told = [(0, [FIRST, one(1, 1), NEXT]), (1, [FIRST, one(1, 1), NEXT])]
        kept = copy.deepcopy(told)
        self.assertIsNone(fault(told))
        self.assertIsNone(fault(told))
        self.assertEqual(told, kept)


class Rules(unittest.TestCase):
    def broken(self, rule, hand, place, *told):
        self.assertEqual(fault(list(told)), (rule, hand, place))


class Number(Rules):
    def test_a_list_that_is_not_greater_than_all_ahead(self):
        self.broken("number", 0, 1, (0, [FIRST, FIRST]))
        self.broken("number", 0, 2, (0, [FIRST, NEXT, FIRST]))
        self.broken("number", 0, 2, (0, [FIRST, ("out", 1), FIRST]))
        self.broken("number", 0, 2, (0, [("list", 5, 1, 0, 1), ("out", 5), ("list", 4, 1, 0, 1)]))
        self.broken("number", 0, 4, (0, [("list", 5, 1, 0, 1), ("out", 5), ("list", 9, 1, 0, 1), ("out", 9),
                                         ("list", 7, 1, 0, 1)]))
        self.broken("number", 0, 1, (0, [("list", 0, 1, 0, 1), ("list", 0, 1, 1, 0)]))

    def test_a_list_that_is_greater_by_more_than_one_while_it_stands(self):
        self.broken("number", 0, 1, (0, [FIRST, ("list", 3, ABC, ABC, 0)]))
        self.broken("number", 1, 1, (0, [FIRST, NEXT]), (1, [FIRST, ("list", 9, ABC, ABC, 0)]))

    def test_a_take_in_no_list(self):
        self.broken("number", 0, 0, (0, [take(0, 1)]))
        self.broken("number", 0, 2, (0, [FIRST, ("out", 1), take(0, 1)]))

    def test_a_take_of_another_list(self):
        self.broken("number", 0, 1, (0, [FIRST, take(0, 1, number=2)]))
        self.broken("number", 0, 2, (0, [FIRST, NEXT, take(0, 1, number=1)]))

    def test_an_out_of_another_list_or_of_none(self):
        self.broken("number", 0, 1, (0, [FIRST, ("out", 2)]))
        self.broken("number", 0, 0, (0, [("out", 1)]))
        self.broken("number", 0, 2, (0, [FIRST, ("out", 1), ("out", 1)]))


class Hands(Rules):
    def test_a_list_without_the_hand(self):
        self.broken("hands", 5, 0, (5, [FIRST]))
        self.broken("hands", 2, 1, (2, [FIRST, ("list", 2, AB, ABC, 0)]))
        self.broken("hands", 5, 0, (5, [("list", 1, ABC, 0, ABC | 32)]))

    def test_who_goes_on_is_in_on(self):
        self.broken("hands", 0, 1, (0, [FIRST, ("list", 2, ABC, 6, 0)]))
        self.broken("hands", 0, 1, (0, [FIRST, ("list", 2, ABC, 6, 1)]))

    def test_who_comes_is_new(self):
        self.broken("hands", 0, 0, (0, [("list", 2, ABC, ABC, 0)]))
        self.broken("hands", 0, 2, (0, [FIRST, ("out", 1), ("list", 3, ABC, 1, 6)]))


class Row(Rules):
    def test_not_the_next_count(self):
        self.broken("row", 0, 1, (0, [FIRST, take(1, 2)]))
        self.broken("row", 0, 2, (0, [FIRST, take(1, 1), take(1, 1)]))
        self.broken("row", 0, 2, (0, [FIRST, take(1, 1), take(1, 3)]))
        self.broken("row", 0, 1, (0, [FIRST, take(1, 0)]))
        self.broken("row", 0, 3, (0, [FIRST, take(1, 1), NEXT, take(1, 2, number=2)]))
        self.broken("row", 0, 2, (0, [FIRST, take(1, 1), one(2, 2)]))


class Causes(Rules):
    def test_causes_that_are_not_covered(self):
        self.broken("causes", 0, 1, (0, [FIRST, take(1, 1, "heard", ((0, 1),))]))
        self.broken("causes", 0, 1, (0, [FIRST, one(1, 1, ((0, 1),))]))
        self.broken("causes", 0, 3, (0, [FIRST, take(0, 1), take(2, 1), take(1, 1, "heard", ((0, 2), (2, 1)))]))

    def test_of_this_list_alone_and_ahead_of_this_place(self):
        self.broken("causes", 0, 3, (0, [FIRST, take(0, 1), NEXT, take(1, 1, "heard", ((0, 1),), 2)]))
        self.broken("causes", 0, 1, (0, [FIRST, take(1, 1, "heard", ((1, 1),))]))


class Lists(Rules):
    def test_another_one_of_that_number(self):
        for other in (("list", 2, ABC, AB, 4), ("list", 2, AB, ABC, 0), ("list", 2, ABC, ABC, 8)):
            self.broken("lists", 1, 1, (0, [FIRST, NEXT]), (1, [FIRST, other]))

    def test_the_one_told_first_counts(self):
        other = ("list", 1, AB, 0, AB)
        self.broken("lists", 1, 0, (0, [FIRST]), (1, [other]), (2, [FIRST]))
        self.broken("lists", 0, 0, (1, [other]), (0, [FIRST]), (2, [FIRST]))


class Calls(Rules):
    def test_another_kind_word_or_causes_of_that_name(self):
        for other in (take(1, 1, "heard"), take(1, 1, word=6), take(1, 1, "own", ((0, 1),)), one(1, 1)):
            self.broken("calls", 1, 1, (0, [FIRST, take(1, 1)]), (1, [FIRST, other]))
        self.broken("calls", 2, 2, (0, [FIRST, take(0, 1), take(1, 1, "heard", ((0, 1),))]),
                    (2, [FIRST, take(0, 1), take(1, 1, "heard")]))

    def test_like_counts_in_other_lists_are_other_names(self):
        self.assertIsNone(fault([(0, [FIRST, take(1, 1), NEXT, take(1, 1, "heard", word=7, number=2)])]))


class One(Rules):
    def test_another_order(self):
        self.broken("one", 1, 1, (0, [FIRST, one(1, 1), one(2, 1)]), (1, [FIRST, one(2, 1), one(1, 1)]))
        self.broken("one", 1, 2, (0, [FIRST, one(0, 1), one(1, 1), one(2, 1)]),
                    (1, [FIRST, one(0, 1), one(2, 1), one(1, 1)]))

    def test_each_is_on_record_as_it_was_met_first(self):
        self.broken("one", 2, 3, (0, [FIRST, one(0, 1)]), (1, [FIRST, one(0, 1), one(1, 1), one(2, 1)]),
                    (2, [FIRST, one(0, 1), one(1, 1), one(0, 2)]))

    def test_more_than_one_that_went_on(self):
        self.broken("one", 1, 2, (0, [FIRST, one(0, 1), NEXT]), (1, [FIRST, one(0, 1), one(1, 1)]))
        self.broken("one", 1, 1, (0, [FIRST, NEXT]), (1, [FIRST, one(0, 1), ("out", 1)]))

    def test_one_that_goes_on_with_fewer(self):
        self.broken("one", 1, 1, (0, [FIRST, one(0, 1)]), (1, [FIRST, NEXT]))
        self.broken("one", 1, 2, (0, [FIRST, one(0, 1), one(0, 2), ("out", 1)]), (1, [FIRST, one(0, 1), NEXT]))

    def test_list_by_list(self):
        self.broken("one", 1, 3, (0, [FIRST, one(0, 1), NEXT, one(0, 1, number=2)]),
                    (1, [FIRST, one(0, 1), NEXT, one(1, 1, number=2)]))
        self.assertIsNone(fault([(0, [FIRST, one(0, 1), NEXT, one(1, 1, number=2)]), (1, [FIRST, one(0, 1), NEXT])]))

    def test_calls_that_are_not_one_may_be_more(self):
        self.assertIsNone(fault([(0, [FIRST, NEXT]), (1, [FIRST, take(1, 1), ("out", 1)])]))


class Together(Rules):
    def test_another_taken_by_who_goes_on(self):
        self.broken("together", 1, 1, (0, [FIRST, take(0, 1), NEXT]), (1, [FIRST, NEXT]))
        self.broken("together", 1, 2, (0, [FIRST, NEXT]), (1, [FIRST, take(0, 1), NEXT]))
        self.broken("together", 1, 2, (0, [FIRST, take(0, 1), NEXT]), (1, [FIRST, take(1, 1), NEXT]))
        self.broken("together", 2, 2, (0, [FIRST, take(0, 1), NEXT]), (1, [FIRST, take(1, 1)]),
                    (2, [FIRST, take(1, 1), NEXT]))

    def test_the_first_seen_to_go_on_counts(self):
        self.broken("together", 0, 1, (1, [FIRST, take(0, 1), NEXT]), (0, [FIRST, NEXT]), (2, [FIRST, NEXT]))


class TwoAtOnePlace(Rules):
    def test_the_first_in_the_documents_order(self):
        self.broken("number", 0, 1, (0, [FIRST, ("list", 3, 6, 6, 0)]))
        self.broken("number", 0, 1, (0, [FIRST, take(1, 2, "heard", ((2, 2),), 2)]))
        self.broken("hands", 1, 1, (0, [FIRST, NEXT]), (1, [FIRST, ("list", 2, 5, 5, 0)]))
        self.broken("row", 0, 1, (0, [FIRST, take(1, 2, "heard", ((2, 2),))]))
        self.broken("row", 1, 1, (0, [FIRST, take(1, 1), one(1, 2)]), (1, [FIRST, take(1, 2)]))
        self.broken("causes", 1, 1, (0, [FIRST, one(1, 1)]), (1, [FIRST, one(1, 1, ((0, 1),))]))
        self.broken("lists", 1, 1, (0, [FIRST, one(0, 1), NEXT]), (1, [FIRST, ("list", 2, AB, ABC, 0)]))
        self.broken("calls", 1, 1, (0, [FIRST, one(0, 1), take(1, 1), NEXT]), (1, [FIRST, one(1, 1)]))
        self.broken("one", 1, 1, (0, [FIRST, one(0, 1), NEXT]), (1, [FIRST, NEXT]))

    def test_the_first_place_and_the_first_hand_count(self):
        self.broken("one", 1, 1, (0, [FIRST, one(0, 1)]), (1, [FIRST, NEXT, FIRST]), (2, [NEXT]))
        self.broken("number", 2, 0, (2, [("out", 1)]), (0, [("out", 1)]))


def plain_fault(told):
    """[54] and [55], word by word, from the whole of what was told ahead of each place."""
    record = {"lists": {}, "calls": {}, "ones": {}, "on": {}}
    for hand, events in told:
        for place, event in enumerate(events):
            ahead = events[:place]
            stands = None
            took = []
            for past in ahead:
                if past[0] == "list":
                    stands, took = past[1], []
                elif past[0] == "out":
                    stands, took = None, []
                else:
                    took.append(past)
            rule = plain_rule(record, hand, event, ahead, stands, took)
            if rule:
                return (rule, hand, place)
    return None


def plain_counts(took):
    counts = {}
    for event in took:
        counts[event[1][1]] = counts.get(event[1][1], 0) + 1
    return counts


def plain_rule(record, hand, event, ahead, stands, took):
    counts = plain_counts(took)
    if event[0] == "out":
        return None if stands is not None and event[1] == stands else "number"
    if event[0] == "list":
        number, hands, on, new = event[1:]
        if any(past[1] >= number for past in ahead if past[0] == "list"):
            return "number"
        if stands is not None and number != stands + 1:
            return "number"
        if not has(hands, hand) or not has(new if stands is None else on, hand):
            return "hands"
        if record["lists"].setdefault(number, (hands, on, new)) != (hands, on, new):
            return "lists"
        if stands is not None and len([past for past in took if past[2] == "one"]) != len(
                record["ones"].get(stands, [])):
            return "one"
        if stands is not None and record["on"].setdefault(stands, counts) != counts:
            return "together"
        return None
    name, kind, word, causes, why = event[1:]
    if stands is None or name[0] != stands:
        return "number"
    if name[2] != counts.get(name[1], 0) + 1:
        return "row"
    if kind != "own" and any(counts.get(caller, 0) < count for caller, count in causes):
        return "causes"
    if record["calls"].setdefault(name, (kind, word, causes)) != (kind, word, causes):
        return "calls"
    if kind == "one":
        at = len([past for past in took if past[2] == "one"])
        ones = record["ones"].setdefault(stands, [])
        if at < len(ones):
            return None if ones[at] == name else "one"
        if stands in record["on"]:
            return "one"
        ones.append(name)
    return None


def lived(chance):
    """The histories of hands of a group to which anything was done."""
    hands = sorted(chance.sample(range(63), chance.randint(2, 5)))
    first = set_of(chance.sample(hands, chance.randint(1, len(hands))))
    group = {hand: Hand(hand, first) for hand in hands}
    letters = []
    for _ in range(400):
        hand = group[chance.choice(hands)]
        deed = chance.random()
        try:
            if deed < 0.25:
                hand.call(chance.choice(["own", "heard", "one", "one"]), chance.randrange(5))
            elif deed < 0.45:
                letters.append(hand.letter())
            elif deed < 0.9:
                if letters:
                    hand.hear(letters[max(0, len(letters) - 1 - chance.randrange(5))])
            elif deed < 0.92:
                hand.suspect(set_of([other for other in hands if chance.random() < 0.3]))
            elif deed < 0.95:
                hand.renew()
            elif deed < 0.96:
                hand.leave()
            else:
                hand.come()
        except GroupError:
            pass
    return [(hand, group[hand].events()) for hand in chance.sample(hands, len(hands))]


def changed(chance, event):
    parts = list(event)
    if event[0] == "take":
        at = chance.randrange(5)
        if at == 0:
            parts[1] = (event[1][0], event[1][1], event[1][2] + chance.choice([-1, 1]))
        elif at == 1:
            parts[1] = (event[1][0] + chance.choice([-1, 1]), event[1][1], event[1][2])
        elif at == 2:
            parts[2] = chance.choice(["own", "heard", "one"])
        elif at == 3:
            parts[3] = event[3] + 1
        else:
            parts[4] = ((event[1][1], event[1][2] - chance.choice([0, 1]) or 1),)
    elif event[0] == "list":
        at = chance.randrange(1, 5)
        parts[at] = event[1] + chance.choice([-1, 1]) if at == 1 else event[at] ^ (1 << chance.randrange(6))
    else:
        parts[1] = event[1] + chance.choice([-1, 1])
    return tuple(parts)


def spoilt(chance, told):
    told = [(hand, list(events)) for hand, events in told]
    for _ in range(chance.randint(1, 2)):
        hand, events = chance.choice(told)
        if len(events) > 1:
            at = chance.randrange(len(events))
            deed = chance.randrange(4)
            if deed == 0:
                events[at] = changed(chance, events[at])
            elif deed == 1:
                events.pop(at)
            elif deed == 2:
                events.insert(chance.randrange(len(events)), events.pop(at))
            else:
                events.insert(at, changed(chance, chance.choice(events)))
    return told


class AnyHistories(unittest.TestCase):
    def test_right_and_spoilt_ones(self):
        met = {}
        for seed in range(120):
            chance = random.Random(seed)
            told = lived(chance)
            with self.subTest(seed=seed):
                self.assertIsNone(fault(told))
                self.assertIsNone(plain_fault(told))
                for _ in range(12):
                    wrong = spoilt(chance, told)
                    kept = copy.deepcopy(wrong)
                    found = fault(wrong)
                    self.assertEqual(found, plain_fault(wrong))
                    self.assertEqual(wrong, kept)
                    rule = found and found[0]
                    met[rule] = met.get(rule, 0) + 1
        for rule in ("number", "hands", "row", "causes", "lists", "calls", "one", "together", None):
            self.assertGreater(met.get(rule, 0), 3, rule)


if __name__ == "__main__":
    unittest.main()
