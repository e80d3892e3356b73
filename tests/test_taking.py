import itertools
import random
import unittest

from groupcall.calls import call_of, make_call
from groupcall.counts import count_of, covers, covers_name, packed
from groupcall.taking import next_name, placed, run


def own(caller, count):
    return make_call(1, caller, count, "own", 5, ())


def heard(caller, count, causes=()):
    return make_call(1, caller, count, "heard", 5, causes)


def one(caller, count, causes=()):
    return make_call(1, caller, count, "one", 5, causes)


def names(row):
    return [call.name()[1:] for call in row]


def tolds(calls):
    return [call.told() for call in calls]


def able(counts, calls, places):
    """All calls that can be taken, word by word as the document tells it."""
    first = next_name(places, counts)
    return [call for call in calls if call.free(counts) and (not call.asks_place() or call.name() == first)]


def plain_run(counts, calls, places):
    counts = {hand: count for hand, count in counts.items() if count}
    row = []
    while True:
        ready = sorted(able(counts, calls, places), key=lambda call: (call.caller, call.count))
        if not ready:
            return row, counts
        behind = [call for call in ready if row and (call.caller, call.count) > (row[-1].caller, row[-1].count)]
        row.append((behind or ready)[0])
        counts[row[-1].caller] = count_of(counts, row[-1].caller) + 1


def any_end(counts, calls, places, chance):
    counts = dict(counts)
    while able(counts, calls, places):
        call = chance.choice(able(counts, calls, places))
        counts[call.caller] = count_of(counts, call.caller) + 1
    return {hand: count for hand, count in counts.items() if count}


def plain_placed(counts, calls, places):
    places = list(places)
    row, counts = plain_run(counts, calls, places)
    while True:
        asking = [call for call in calls if call.asks_place() and call.free(counts)]
        if not asking:
            return row, places
        first = next_name(places, counts)
        if first is not None:
            places = places[:places.index(first)]
        places.append(min(asking, key=lambda call: (call.caller, call.count)).name())
        more, counts = plain_run(counts, calls, places)
        row = row + more


def made_up(chance):
    """Counts, calls and places as they come in a list: causes are what the caller may have taken."""
    hands = sorted(chance.sample(range(63), chance.randint(1, 4)))
    seen = {hand: {} for hand in hands}
    calls = []
    for _ in range(chance.randint(0, 14)):
        caller = chance.choice(hands)
        made = sum(call.caller == caller for call in calls)
        for call in calls:
            if chance.random() < 0.4 and count_of(seen[caller], call.caller) == call.count - 1:
                seen[caller][call.caller] = call.count
        kind = chance.choice(["own", "heard", "one"])
        calls.append(make_call(1, caller, made + 1, kind, len(calls), packed(seen[caller])))
    places = [call.name() for call in calls if call.asks_place() and chance.random() < 0.8]
    if chance.random() < 0.3:
        chance.shuffle(places)
        places = sorted(places, key=lambda name: (name[2], places.index(name)))
    counts = {}
    for _ in range(chance.randint(0, 4)):
        ready = able(counts, calls, places)
        if ready:
            call = chance.choice(ready)
            counts[call.caller] = call.count
    counts.setdefault(chance.choice(hands), 0)
    chance.shuffle(calls)
    return counts, [call for call in calls if chance.random() < 0.95], places


MADE_UP = [made_up(random.Random(seed)) for seed in range(300)]


class NextName(unittest.TestCase):
    PLACES = [(1, 4, 1), (1, 0, 2), (1, 4, 3)]

    def check(self, counts, answer):
        for places in (list(self.PLACES), tuple(self.PLACES)):
            with self.subTest(places=places, counts=counts):
                kept = dict(counts)
                self.assertEqual(next_name(places, counts), answer)
                self.assertEqual(list(places), self.PLACES)
                self.assertEqual(counts, kept)

    def test_the_first_that_is_not_covered(self):
        self.check({}, (1, 4, 1))
        self.check({4: 0, 0: 9}, (1, 4, 1))
        self.check({4: 1}, (1, 0, 2))
        self.check({4: 1, 0: 1}, (1, 0, 2))
        self.check({4: 3}, (1, 0, 2))
        self.check({4: 2, 0: 2}, (1, 4, 3))

    def test_none_where_all_are_covered(self):
        self.check({4: 3, 0: 2}, None)
        self.check({4: 7, 0: 7, 1: 1}, None)

    def test_none_of_no_places(self):
        for places in ([], ()):
            self.assertIsNone(next_name(places, {}))
            self.assertIsNone(next_name(places, {0: 1}))


class Run(unittest.TestCase):
    def check(self, counts, calls, places, row, end):
        for some in list(itertools.permutations(calls))[:200] + [calls[::-1]]:
            for given in (list(places), tuple(places)):
                some = list(some)
                kept, before = dict(counts), list(some)
                told = run(counts, some, given)
                self.assertIs(type(told), tuple)
                self.assertIs(type(told[0]), list)
                self.assertEqual((names(told[0]), told[1]), (row, end))
                self.assertIsNot(told[1], counts)
                self.assertEqual((counts, some, list(given)), (kept, before, list(places)))

    def test_of_no_calls(self):
        self.check({}, [], [], [], {})
        self.check({4: 2}, [], [(1, 4, 3)], [], {4: 2})

    def test_no_nought_is_told(self):
        self.check({3: 0, 4: 2}, [], [], [], {4: 2})
        self.check({3: 0, 4: 0}, [own(3, 1)], [], [(3, 1)], {3: 1})

    def test_calls_of_one_caller_come_in_their_row(self):
        self.check({}, [own(2, 1), own(2, 2), own(2, 3)], [], [(2, 1), (2, 2), (2, 3)], {2: 3})
        self.check({2: 1}, [own(2, 1), own(2, 2), own(2, 3)], [], [(2, 2), (2, 3)], {2: 3})
        self.check({}, [own(2, 1), own(2, 3)], [], [(2, 1)], {2: 1})
        self.check({}, [own(2, 2), own(2, 3)], [], [], {})

    def test_the_least_rank_comes_first(self):
        self.check({}, [own(2, 1), own(0, 1), own(62, 1), own(10, 1)], [], [(0, 1), (2, 1), (10, 1), (62, 1)],
                   {0: 1, 2: 1, 10: 1, 62: 1})
        self.check({}, [own(0, 1), own(0, 2), own(1, 1), own(1, 2)], [], [(0, 1), (0, 2), (1, 1), (1, 2)],
                   {0: 2, 1: 2})

    def test_it_goes_on_from_the_one_taken_last_and_then_from_the_least_again(self):
        # (0, 2) is free as soon as (1, 1) is taken, but hand 2 comes first, being beyond (1, 1).
        self.check({}, [own(0, 1), heard(0, 2, ((1, 1),)), own(1, 1), own(2, 1)], [],
                   [(0, 1), (1, 1), (2, 1), (0, 2)], {0: 2, 1: 1, 2: 1})
        # Behind (1, 1) its own caller's next one comes ahead of hand 0's.
        self.check({}, [heard(0, 1, ((1, 1),)), own(1, 1), own(1, 2)], [], [(1, 1), (1, 2), (0, 1)], {0: 1, 1: 2})
        # Twice round: hand 0 waits for 2, which waits for 1, which waits for 0's first.
        self.check({}, [own(0, 1), heard(0, 2, ((2, 1),)), heard(2, 1, ((1, 1),)), heard(1, 1, ((0, 1),)),
                        heard(1, 2, ((0, 2),))], [],
                   [(0, 1), (1, 1), (2, 1), (0, 2), (1, 2)], {0: 2, 1: 2, 2: 1})

    def test_causes_are_waited_for(self):
        self.check({}, [heard(0, 1, ((5, 2),)), own(5, 1)], [], [(5, 1)], {5: 1})
        self.check({5: 2}, [heard(0, 1, ((5, 2),)), own(5, 1)], [], [(0, 1)], {0: 1, 5: 2})
        self.check({}, [heard(0, 1, ((5, 1),)), heard(5, 1, ((0, 1),))], [], [], {})

    def test_a_one_call_is_taken_only_where_its_name_is_next(self):
        first, second = one(0, 1), one(4, 1)
        self.check({}, [first, second], [], [], {})
        self.check({}, [first, second], [(1, 0, 1)], [(0, 1)], {0: 1})
        self.check({}, [first, second], [(1, 4, 1)], [(4, 1)], {4: 1})
        self.check({}, [first, second], [(1, 4, 1), (1, 0, 1)], [(4, 1), (0, 1)], {0: 1, 4: 1})
        self.check({}, [second], [(1, 0, 1), (1, 4, 1)], [], {})
        self.check({0: 1}, [second], [(1, 0, 1), (1, 4, 1)], [(4, 1)], {0: 1, 4: 1})
        self.check({}, [first], [(2, 0, 1)], [], {})

    def test_a_one_call_waits_for_its_causes_and_row_too(self):
        self.check({}, [one(0, 1, ((4, 1),))], [(1, 0, 1)], [], {})
        self.check({}, [one(0, 1, ((4, 1),)), own(4, 1)], [(1, 0, 1)], [(4, 1), (0, 1)], {0: 1, 4: 1})
        self.check({}, [one(0, 2)], [(1, 0, 2)], [], {})
        self.check({}, [one(0, 2), own(0, 1)], [(1, 0, 2)], [(0, 1), (0, 2)], {0: 2})
        # A call behind a "one" call of its caller waits with it.
        self.check({}, [one(0, 1), own(0, 2)], [], [], {})
        self.check({}, [one(0, 1), own(0, 2)], [(1, 0, 1)], [(0, 1), (0, 2)], {0: 2})

    def test_places_behind_one_that_is_not_reached_wait(self):
        self.check({}, [one(0, 1), one(4, 1), own(4, 2)], [(1, 0, 1), (1, 3, 1), (1, 4, 1)], [(0, 1)], {0: 1})

    def test_calls_that_the_counts_cover_are_not_taken_again(self):
        self.check({0: 1, 4: 7}, [own(0, 1), heard(4, 7), one(4, 1), own(0, 2)], [(1, 4, 1)], [(0, 2)], {0: 2, 4: 7})

    def test_counts_told_are_the_askers_own(self):
        counts, calls = {0: 1}, [own(0, 2)]
        told = run(counts, calls, [])
        told[1][0] = 9
        told[0].clear()
        self.assertEqual(counts, {0: 1})
        self.assertEqual(len(calls), 1)
        self.assertEqual(run(counts, calls, [])[1], {0: 2})

    def test_what_is_done_behind_the_call_changes_nothing(self):
        counts, calls, places = {0: 1}, [own(0, 2), one(1, 1)], [(1, 1, 1)]
        row, end = run(counts, calls, places)
        counts[0] = 7
        calls.clear()
        places.clear()
        self.assertEqual((names(row), end), ([(0, 2), (1, 1)], {0: 2, 1: 1}))

    def test_made_up_ones_go_as_the_document_tells(self):
        long = 0
        for counts, calls, places in MADE_UP:
            row, end = run(counts, calls, places)
            plain_row, plain_end = plain_run(counts, calls, places)
            self.assertEqual((names(row), end), (names(plain_row), plain_end))
            long += len(row) > 4
        self.assertGreater(long, 50)

    def test_calls_taken_stay_as_they_are(self):
        calls = [heard(0, 1, ((1, 1),)), own(1, 1), one(2, 1, ((0, 1), (1, 1)))]
        before = tolds(calls)
        row, _ = run({}, calls, [(1, 2, 1)])
        self.assertEqual(tolds(calls), before)
        self.assertEqual(sorted(tolds(row)), sorted(before))


class AnyOrder(unittest.TestCase):
    def test_whatever_order_the_end_is_the_same(self):
        for seed, (counts, calls, places) in enumerate(MADE_UP):
            end = run(counts, calls, places)[1]
            for turn in range(3):
                chance = random.Random(1000 * seed + turn)
                self.assertEqual(any_end(counts, calls, places, chance), end)

    def test_from_more_with_more_the_end_covers_the_first_end(self):
        for seed, (counts, calls, places) in enumerate(MADE_UP):
            chance = random.Random(seed)
            some = [call for call in calls if chance.random() < 0.7]
            first = places[:chance.randint(0, len(places))]
            end = run(counts, some, first)[1]
            more = run(counts, calls, places)[1]
            self.assertTrue(covers(more, end))
            self.assertTrue(covers(run(end, calls, places)[1], end))
            self.assertEqual(run(end, calls, places)[1], more)


class Placed(unittest.TestCase):
    def check(self, counts, calls, places, row, order):
        for some in list(itertools.permutations(calls))[:200] + [calls[::-1]]:
            for given in (list(places), tuple(places)):
                some = list(some)
                kept, before = dict(counts), list(some)
                told = placed(counts, some, given)
                self.assertIs(type(told), tuple)
                self.assertIs(type(told[0]), list)
                self.assertIs(type(told[1]), list)
                self.assertEqual((names(told[0]), told[1]), (row, order))
                self.assertIsNot(told[1], given)
                self.assertEqual((counts, some, list(given)), (kept, before, list(places)))

    def test_of_nothing(self):
        self.check({}, [], [], [], [])
        self.check({4: 1}, [], [(1, 4, 1)], [], [(1, 4, 1)])

    def test_none_that_asks_for_a_place(self):
        self.check({}, [own(0, 1), heard(1, 1, ((0, 1),))], [], [(0, 1), (1, 1)], [])
        # Places handed in stay where no place is given, also those that are not reached.
        self.check({}, [own(0, 1)], [(1, 4, 1), (1, 5, 1)], [(0, 1)], [(1, 4, 1), (1, 5, 1)])

    def test_none_is_free(self):
        self.check({}, [one(0, 2), one(1, 1, ((5, 1),))], [(1, 6, 1)], [], [(1, 6, 1)])

    def test_one_place(self):
        self.check({}, [one(4, 1)], [], [(4, 1)], [(1, 4, 1)])
        self.check({4: 1, 0: 3}, [one(4, 2), own(4, 3)], [(1, 4, 1)], [(4, 2), (4, 3)], [(1, 4, 1), (1, 4, 2)])

    def test_several_places_one_behind_the_other(self):
        self.check({}, [one(4, 1), one(0, 1), one(0, 2)], [], [(0, 1), (0, 2), (4, 1)],
                   [(1, 0, 1), (1, 0, 2), (1, 4, 1)])
        # The least rank of all that are free is given the place, not the least beyond the last one.
        self.check({}, [one(4, 1), one(4, 2), one(0, 1, ((4, 1),))], [], [(4, 1), (0, 1), (4, 2)],
                   [(1, 4, 1), (1, 0, 1), (1, 4, 2)])

    def test_calls_between_are_taken_with_each_place(self):
        self.check({}, [one(1, 1), own(1, 2), own(0, 1), one(0, 2), heard(2, 1, ((0, 2),))], [],
                   [(0, 1), (0, 2), (2, 1), (1, 1), (1, 2)], [(1, 0, 2), (1, 1, 1)])

    def test_places_handed_in_that_are_reached_stay_ahead(self):
        self.check({}, [one(0, 1), one(4, 1), one(5, 1)], [(1, 5, 1)], [(5, 1), (0, 1), (4, 1)],
                   [(1, 5, 1), (1, 0, 1), (1, 4, 1)])
        self.check({6: 2}, [one(0, 1)], [(1, 6, 2)], [(0, 1)], [(1, 6, 2), (1, 0, 1)])

    def test_places_handed_in_that_are_not_reached_are_dropped(self):
        self.check({}, [one(0, 1)], [(1, 4, 1)], [(0, 1)], [(1, 0, 1)])
        self.check({}, [one(0, 1), one(5, 1)], [(1, 5, 1), (1, 4, 1), (1, 4, 2)], [(5, 1), (0, 1)],
                   [(1, 5, 1), (1, 0, 1)])
        # (4, 1) was behind the one that is missing; it is given a place of its own.
        self.check({}, [one(4, 1), one(0, 1)], [(1, 3, 1), (1, 4, 1)], [(0, 1), (4, 1)], [(1, 0, 1), (1, 4, 1)])
        # All from the next name on are dropped, those that the counts cover among them.
        self.check({6: 1}, [one(0, 1)], [(1, 3, 1), (1, 6, 1)], [(0, 1)], [(1, 0, 1)])

    def test_where_no_place_is_given_they_are_as_handed_in(self):
        self.check({}, [one(5, 1)], [(1, 5, 1), (1, 4, 1)], [(5, 1)], [(1, 5, 1), (1, 4, 1)])
        self.check({5: 1}, [one(5, 1)], [(1, 5, 1), (1, 4, 1)], [], [(1, 5, 1), (1, 4, 1)])

    def test_what_is_told_is_the_askers_own(self):
        counts, calls, places = {}, [one(0, 1)], [(1, 4, 1)]
        row, order = placed(counts, calls, places)
        row.clear()
        order.clear()
        self.assertEqual((counts, len(calls), places), ({}, 1, [(1, 4, 1)]))
        same = placed({}, [], places)[1]
        same.append((1, 9, 9))
        self.assertEqual(places, [(1, 4, 1)])

    def test_made_up_ones_go_as_the_document_tells(self):
        given = 0
        for counts, calls, places in MADE_UP:
            row, order = placed(counts, calls, places)
            plain_row, plain_order = plain_placed(counts, calls, places)
            self.assertEqual((names(row), order), (names(plain_row), plain_order))
            given += order != places
        self.assertGreater(given, 50)

    def test_behind_it_a_run_with_its_places_takes_them_all(self):
        for counts, calls, places in MADE_UP:
            row, order = placed(counts, calls, places)
            end = run(counts, calls, order)[1]
            if order != places:
                self.assertTrue(all(covers_name(end, name) for name in order))
                self.assertEqual(sorted(names(row)), sorted(names(run(counts, calls, order)[0])))

    def test_calls_made_again_are_taken_alike(self):
        for counts, calls, places in MADE_UP[:50]:
            again = [call_of(call.told()) for call in calls]
            self.assertEqual(names(placed(counts, again, places)[0]), names(placed(counts, calls, places)[0]))


if __name__ == "__main__":
    unittest.main()
