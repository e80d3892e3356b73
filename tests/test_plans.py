import copy
import random
import unittest

from groupcall.calls import call_of
from groupcall.counts import count_of, covers, covers_name, unpacked
from groupcall.page import Page
from groupcall.plans import base_of, first_plan, places_of
from groupcall.sets import hands_of, has, more_than_half, set_of

KINDS = ("own", "heard", "one")


def report(hand, floor=(), calls=(), places=(), leaves=False):
    return (hand, floor, calls, places, leaves)


def own(caller, count):
    return (1, caller, count, "own", 5, ())


def heard(caller, count, causes=()):
    return (1, caller, count, "heard", 5, causes)


def one(caller, count, causes=()):
    return (1, caller, count, "one", 5, causes)


def is_plain(value):
    if type(value) is tuple:
        return all(is_plain(part) for part in value)
    return value is None or type(value) in (int, str, bool)


class Base(unittest.TestCase):
    def test_of_no_report(self):
        self.assertEqual(base_of([]), {})

    def test_of_one(self):
        self.assertEqual(base_of([report(3)]), {})
        self.assertEqual(base_of([report(3, ((0, 2), (3, 1)))]), {0: 2, 3: 1})

    def test_of_several_the_greater_of_each(self):
        reports = [report(0, ((0, 2), (3, 1))), report(3, ((0, 1), (3, 4))), report(5, ((62, 10 ** 60 - 1),))]
        self.assertEqual(base_of(reports), {0: 2, 3: 4, 62: 10 ** 60 - 1})
        self.assertEqual(base_of(reports[1:]), {0: 1, 3: 4, 62: 10 ** 60 - 1})

    def test_it_holds_no_noughts(self):
        self.assertEqual(base_of([report(0, ((0, 0), (3, 1))), report(3, ((4, 0),))]), {3: 1})

    def test_only_the_floors_count(self):
        self.assertEqual(base_of([report(0, (), (own(0, 1), one(0, 2)), ((1, 0, 2),), True)]), {})

    def test_it_is_the_askers_own(self):
        reports = [report(0, ((0, 2),))]
        base_of(reports)[0] = 7
        self.assertEqual(base_of(reports), {0: 2})


class Places(unittest.TestCase):
    def test_of_no_report(self):
        self.assertEqual(places_of([]), ())

    def test_of_one(self):
        self.assertEqual(places_of([report(3)]), ())
        self.assertEqual(places_of([report(3, (), (), ((1, 0, 2), (1, 3, 1)))]), ((1, 0, 2), (1, 3, 1)))

    def test_the_longest(self):
        short, middle, long = ((1, 9, 9),), ((1, 0, 1), (1, 3, 1)), ((1, 0, 1), (1, 3, 1), (1, 0, 2))
        for order in ([short, middle, long], [long, middle, short], [middle, long, short], [(), long, middle]):
            reports = [report(hand, (), (), places) for hand, places in enumerate(order)]
            self.assertEqual(places_of(reports), long)

    def test_the_first_of_equally_long_ones(self):
        first, second = ((1, 5, 1), (1, 5, 2)), ((1, 0, 1), (1, 0, 2))
        self.assertEqual(places_of([report(0, (), (), first), report(1, (), (), second)]), first)
        self.assertEqual(places_of([report(0, (), (), second), report(1, (), (), first)]), second)
        self.assertEqual(places_of([report(0), report(1, (), (), first), report(2, (), (), second)]), first)


class WhoGoesOn(unittest.TestCase):
    HANDS = set_of([0, 2, 5, 9])

    def check(self, me, reports, wishes, on, hands, new):
        plan = first_plan(me, self.HANDS, reports, wishes)
        self.assertEqual(plan, (set_of(on), set_of(hands), set_of(new), ()))
        self.assertTrue(is_plain(plan))

    def test_all_who_report(self):
        self.check(2, [report(0), report(2), report(5), report(9)], 0, [0, 2, 5, 9], [0, 2, 5, 9], [])
        self.check(2, [report(0), report(2), report(9)], 0, [0, 2, 9], [0, 2, 9], [])
        self.check(2, [report(2)], 0, [2], [2], [])

    def test_who_leaves_is_on_but_not_among_the_hands(self):
        self.check(2, [report(0, leaves=True), report(2), report(5)], 0, [0, 2, 5], [2, 5], [])
        self.check(2, [report(0, leaves=True), report(2), report(5, leaves=True)], 0, [0, 2, 5], [2], [])

    def test_me_stays_even_where_its_own_report_leaves(self):
        self.check(2, [report(0), report(2, leaves=True), report(5)], 0, [0, 2, 5], [0, 2, 5], [])
        self.check(5, [report(0), report(2, leaves=True), report(5)], 0, [0, 2, 5], [0, 5], [])
        self.check(2, [report(0, leaves=True), report(2, leaves=True)], 0, [0, 2], [2], [])

    def test_wishes_that_are_not_in_the_set_come_new(self):
        self.check(2, [report(0), report(2)], set_of([1, 62]), [0, 2], [0, 1, 2, 62], [1, 62])

    def test_wishes_that_are_in_the_set_are_dropped(self):
        self.check(2, [report(0), report(2)], set_of([0, 5, 9]), [0, 2], [0, 2], [])
        self.check(2, [report(0, leaves=True), report(2)], set_of([0, 1, 5]), [0, 2], [1, 2], [1])

    def test_all_wish_and_leave(self):
        reports = [report(hand, leaves=True) for hand in (0, 2, 5, 9)]
        self.check(9, reports, (1 << 63) - 1, [0, 2, 5, 9], [hand for hand in range(63) if hand not in (0, 2, 5)],
                   [hand for hand in range(63) if hand not in (0, 2, 5, 9)])


class WhatIsTaken(unittest.TestCase):
    def check(self, reports, row):
        kept = copy.deepcopy(reports)
        plan = first_plan(0, set_of([0, 1, 2]), reports, 0)
        self.assertEqual(plan[3], tuple(row))
        self.assertTrue(is_plain(plan))
        self.assertEqual(reports, kept)

    def test_calls_of_all_reports_in_the_order_of_runs(self):
        self.check([report(0, (), (own(0, 1), own(0, 2))), report(1, (), (own(1, 1),))],
                   [own(0, 1), own(0, 2), own(1, 1)])
        self.check([report(0, (), (own(2, 1),)), report(1, (), (own(1, 1), own(0, 1)))],
                   [own(0, 1), own(1, 1), own(2, 1)])

    def test_a_walk_by_rank_begins_anew_only_at_its_end(self):
        first = heard(0, 1, ((1, 1),))
        self.check([report(0, (), (first,)), report(1, (), (own(1, 1), own(2, 1)))], [own(1, 1), own(2, 1), first])

    def test_calls_with_one_name_once(self):
        self.check([report(0, (), (own(0, 1),)), report(1, (), (own(0, 1), own(1, 1))), report(2, (), (own(0, 1),))],
                   [own(0, 1), own(1, 1)])

    def test_calls_that_the_base_covers_are_not_among_them(self):
        self.check([report(0, ((0, 1),), (own(0, 2),)), report(1, (), (own(0, 1), own(1, 1)))],
                   [own(0, 2), own(1, 1)])
        self.check([report(0, (), (own(0, 1), own(0, 2))), report(1, ((0, 2),), ())], [])

    def test_calls_that_are_not_free_are_left_out(self):
        self.check([report(0, (), (own(0, 2), own(1, 1)))], [own(1, 1)])
        self.check([report(0, (), (heard(0, 1, ((2, 1),)), own(0, 2), own(1, 1)))], [own(1, 1)])
        self.check([report(0, ((2, 1),), (heard(0, 1, ((2, 1),)), own(0, 2)))], [heard(0, 1, ((2, 1),)), own(0, 2)])
        self.check([report(0, (), (one(0, 1, ((2, 1),)),)), report(2, (), (one(2, 1, ((0, 1),)),))], [])

    def test_the_order_of_the_places(self):
        first, second = one(0, 1), one(1, 1)
        self.check([report(0, (), (first, second))], [first, second])
        self.check([report(0, (), (first, second), ((1, 1, 1), (1, 0, 1)))], [second, first])
        self.check([report(0, (), (first, second), ((1, 0, 1),)), report(1, (), (), ((1, 1, 1), (1, 0, 1)))],
                   [second, first])

    def test_calls_with_no_place_are_given_one_by_rank(self):
        self.check([report(0, (), (one(0, 1), one(1, 1), one(2, 1)), ((1, 2, 1),))], [one(2, 1), one(0, 1), one(1, 1)])

    def test_places_whose_calls_nobody_keeps_are_dropped(self):
        self.check([report(0, (), (one(0, 1), one(1, 1)), ((1, 1, 1), (1, 2, 1), (1, 0, 1)))],
                   [one(1, 1), one(0, 1)])

    def test_places_that_the_base_covers_are_passed(self):
        self.check([report(0, ((2, 1),), (one(0, 1), one(1, 1)), ((1, 2, 1), (1, 1, 1)))], [one(1, 1), one(0, 1)])

    def test_a_call_behind_the_one_that_frees_it(self):
        first, second = one(1, 1), heard(0, 1, ((1, 1),))
        self.check([report(0, (), (second, first))], [first, second])


def plain_run(counts, calls, places):
    """[15], word by word, over told calls; also the counts at the end."""
    counts = dict(counts)
    row = []
    while True:
        open_names = [name for name in places if not covers_name(counts, name)]
        ready = sorted(told for told in calls if call_of(told).free(counts)
                       and (told[3] != "one" or told[:3] == (open_names or [None])[0]))
        if not ready:
            return row, counts
        behind = [told for told in ready if row and told[1:3] > row[-1][1:3]]
        row.append((behind or ready)[0])
        counts[row[-1][1]] = count_of(counts, row[-1][1]) + 1


def plain_plan(me, hands, reports, wishes):
    """[32], word by word."""
    on = {one_report[0] for one_report in reports}
    new = {hand for hand in range(63) if has(wishes, hand) and not has(hands, hand)}
    stay = {one_report[0] for one_report in reports if not one_report[4]} | {me} | new
    base = {}
    places = []
    calls = {}
    for hand, floor, told_calls, told_places, leaves in reports:
        for caller, count in floor:
            base[caller] = max(base.get(caller, 0), count)
        if len(told_places) > len(places):
            places = list(told_places)
        calls.update({told[:3]: told for told in told_calls})
    calls = [told for name, told in calls.items() if base.get(name[1], 0) < name[2]]
    row, counts = plain_run(base, calls, places)
    while True:
        asking = [told for told in calls if told[3] == "one" and call_of(told).free(counts)]
        if not asking:
            break
        open_names = [name for name in places if not covers_name(counts, name)]
        if open_names:
            places = places[:places.index(open_names[0])]
        places = places + [min(asking, key=lambda told: told[1:3])[:3]]
        more, counts = plain_run(counts, calls, places)
        row = row + more
    return (set_of(on), set_of(stay), set_of(new), tuple(row))


def made_up_reports(chance, hands):
    """Reports as no page need tell them: any floors, calls and places of one list."""
    calls = []
    for caller in hands:
        for count in range(1, chance.randint(1, 5)):
            causes = tuple((hand, chance.randint(1, 3)) for hand in hands if chance.random() < 0.15)
            kind = chance.choice(KINDS)
            calls.append((1, caller, count, kind, count, () if kind == "own" else causes))
    reports = []
    for hand in hands:
        if chance.random() < 0.7:
            floor = tuple((caller, chance.randint(0, 3)) for caller in hands if chance.random() < 0.4)
            some = [told for told in calls if chance.random() < 0.8]
            names = [told[:3] for told in calls if told[3] == "one" and chance.random() < 0.7]
            chance.shuffle(names)
            names = sorted(names, key=lambda name: (name[2], names.index(name)))
            reports.append((hand, floor, tuple(some), tuple(names), chance.random() < 0.3))
    return reports


class AnyReports(unittest.TestCase):
    def test_like_the_documents_words(self):
        long = 0
        for seed in range(400):
            chance = random.Random(seed)
            hands = sorted(chance.sample(range(8), chance.randint(1, 4)))
            reports = made_up_reports(chance, hands)
            if reports:
                me = chance.choice(reports)[0]
                wishes = chance.randrange(256)
                kept = copy.deepcopy(reports)
                plan = first_plan(me, set_of(hands), reports, wishes)
                with self.subTest(seed=seed):
                    self.assertEqual(plan, plain_plan(me, set_of(hands), reports, wishes))
                    self.assertEqual(reports, kept)
                long += len(plan[3]) > 4
        self.assertGreater(long, 30)


class Stopping:
    """Pages of one list, of which more than half report at some time and do nothing more."""

    def __init__(self, chance):
        self.chance = chance
        self.hands = sorted(chance.sample(range(63), chance.randint(1, 6)))
        self.pages = {hand: Page(hand, 1, set_of(self.hands), 60) for hand in self.hands}
        self.pieces = []
        self.reports = {}

    def deed(self):
        chance = self.chance
        page = self.pages[chance.choice([hand for hand in self.hands if hand not in self.reports])]
        deed = chance.randrange(6)
        if deed == 0:
            page.utter(chance.choice(KINDS), chance.randrange(9))
        elif deed < 3:
            self.pieces.append(page.piece() if chance.random() < 0.7 else page.piece(chance.randrange(3), 2))
        elif self.pieces:
            page.listen(self.pieces[max(0, len(self.pieces) - 1 - chance.randrange(12))])

    def stop(self):
        hand = self.chance.choice([hand for hand in self.hands if hand not in self.reports])
        self.reports[hand] = self.pages[hand].report(False)


def ones_of(rows):
    return [row[:3] for row in rows if row[3] == "one"]


class BehindReports(unittest.TestCase):
    def test_reports_of_more_than_half(self):
        rows = 0
        for seed in range(150):
            world = Stopping(random.Random(seed))
            for _ in range(60):
                world.deed()
            while not more_than_half(set_of(world.reports), set_of(world.hands)):
                world.stop()
                for _ in range(world.chance.randrange(20)):
                    if len(world.reports) < len(world.hands):
                        world.deed()
            if len(world.reports) < len(world.hands):
                for _ in range(40):
                    world.deed()
            with self.subTest(seed=seed):
                rows += self.check(world)
        self.assertGreater(rows, 200)

    def check(self, world):
        reports = [world.reports[hand] for hand in sorted(world.reports)]
        me = world.chance.choice(sorted(world.reports))
        plan = first_plan(me, set_of(world.hands), reports, 0)
        self.assertEqual(hands_of(plan[0]), sorted(world.reports))
        counts = base_of(reports)
        ones = [name for name in places_of(reports) if covers_name(counts, name)] + ones_of(plan[3])
        for told in plan[3]:
            self.assertEqual(count_of(counts, told[1]), told[2] - 1)
            self.assertTrue(covers(counts, unpacked(told[5])))
            counts[told[1]] = told[2]
        for hand in world.reports:
            self.assertTrue(covers(counts, world.pages[hand].taken()))
        for page in world.pages.values():
            took = ones_of(page.rows())
            self.assertEqual(took, ones[:len(took)])
        return len(plan[3])


if __name__ == "__main__":
    unittest.main()
