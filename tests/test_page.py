import itertools
import random
import unittest

from groupcall.counts import covers, covers_name, unpacked
from groupcall.errors import Held, NoKind, NoWord
from groupcall.page import Page
from groupcall.sets import more_than_half, set_of

KINDS = ("own", "heard", "one")
SIXTY = 10 ** 60 - 1


def pages_of(hands, number=1, room=8):
    return {hand: Page(hand, number, set_of(hands), room) for hand in hands}


def tell(pages, teller, hearer, skip=0, many=None):
    return pages[hearer].listen(pages[teller].piece(skip, many))


def go_round(pages, hands=None):
    hands = sorted(pages if hands is None else hands)
    for teller in hands:
        for hearer in hands:
            if hearer != teller:
                tell(pages, teller, hearer)


def state(page):
    return (page.piece(), page.report(False), page.taken(), page.kept(), page.places(), page.rows())


def ones(page):
    return [row[:3] for row in page.rows() if row[3] == "one"]


def is_plain(value):
    if type(value) is tuple:
        return all(is_plain(part) for part in value)
    return value is None or type(value) in (int, str, bool)


def told_names(taken):
    return [told[1:3] for told, why in taken]


class Alone(unittest.TestCase):
    def test_at_first_all_is_empty(self):
        page = Page(4, 7, set_of([0, 4]), 3)
        self.assertEqual((page.taken(), page.kept(), page.places(), page.rows()), ({}, [], [], []))
        self.assertEqual(page.report(True), (4, (), (), (), True))

    def test_it_takes_each_call_at_once_and_lets_it_go(self):
        page = Page(4, 7, set_of([4]), 1)
        self.assertEqual(page.utter("heard", 5), [((7, 4, 1, "heard", 5, ()), "ready")])
        self.assertEqual(page.utter("one", -5), [((7, 4, 2, "one", -5, ((4, 1),)), "sure")])
        self.assertEqual(page.utter("own", 0), [((7, 4, 3, "own", 0, ()), "ready")])
        self.assertEqual(page.utter("one", SIXTY), [((7, 4, 4, "one", SIXTY, ((4, 3),)), "sure")])
        self.assertEqual((page.taken(), page.kept(), page.places()), ({4: 4}, [], [(7, 4, 2), (7, 4, 4)]))
        self.assertEqual(page.report(False), (4, ((4, 4),), (), ((7, 4, 2), (7, 4, 4)), False))
        self.assertEqual(page.rows(), [(7, 4, 2, "one", -5), (7, 4, 4, "one", SIXTY), (7, 4, 1, "heard", 5),
                                       (7, 4, 3, "own", 0)])

    def test_it_is_never_held(self):
        page = Page(62, 0, set_of([62]), 1)
        for count in range(1, 101):
            self.assertEqual(len(page.utter(KINDS[count % 3], count)), 1)
        self.assertEqual((page.taken(), page.kept()), ({62: 100}, []))


class Uttering(unittest.TestCase):
    def test_own_and_heard_are_taken_at_once_one_is_not(self):
        page = Page(2, 1, set_of([0, 2]), 8)
        self.assertEqual(page.utter("own", 5), [((1, 2, 1, "own", 5, ()), "ready")])
        self.assertEqual(page.utter("heard", 6), [((1, 2, 2, "heard", 6, ((2, 1),)), "ready")])
        self.assertEqual(page.utter("one", 7), [])
        self.assertEqual(page.taken(), {2: 2})
        self.assertEqual(page.kept(), [(1, 2, 1), (1, 2, 2), (1, 2, 3)])

    def test_calls_behind_a_one_call_wait_with_it(self):
        page = Page(2, 1, set_of([0, 2]), 8)
        self.assertEqual([page.utter(kind, 5) for kind in ("one", "own", "heard")], [[], [], []])
        self.assertEqual([told[5] for told in page.report(False)[2]], [(), (), ()])
        self.assertEqual(page.taken(), {})

    def test_causes_are_what_it_had_taken(self):
        pages = pages_of([0, 2, 5])
        pages[5].utter("own", 1)
        pages[0].utter("own", 2)
        pages[0].utter("own", 3)
        tell(pages, 5, 2)
        tell(pages, 0, 2)
        self.assertEqual(pages[2].utter("heard", 4), [((1, 2, 1, "heard", 4, ((0, 2), (5, 1))), "ready")])
        self.assertEqual(pages[2].utter("one", 5), [])
        self.assertEqual(pages[2].utter("heard", 6), [])
        self.assertEqual([told[4:] for told in pages[2].report(False)[2] if told[1] == 2],
                         [(4, ((0, 2), (5, 1))), (5, ((0, 2), (2, 1), (5, 1))), (6, ((0, 2), (2, 1), (5, 1)))])
        self.assertEqual(pages[2].utter("own", 7), [])
        self.assertEqual(pages[2].report(False)[2][-2], (1, 2, 4, "own", 7, ()))

    def test_the_number_is_the_lists(self):
        for number in (0, 1, 10 ** 18):
            page = Page(1, number, set_of([0, 1]), 8)
            self.assertEqual(page.utter("own", 5)[0][0][0], number)
            self.assertEqual(page.kept(), [(number, 1, 1)])


class Refused(unittest.TestCase):
    def refused(self, page, error, kind, word):
        before = state(page)
        with self.assertRaises(error) as caught:
            page.utter(kind, word)
        self.assertEqual(state(page), before)
        return caught.exception

    def test_with_held(self):
        for room in (1, 2, 60):
            for kinds in (("own",), ("one",), KINDS):
                page = Page(2, 1, set_of([0, 2]), room)
                for count in range(room):
                    page.utter(kinds[count % len(kinds)], count)
                for kind, word in [("own", 5), ("heard", 5), ("one", 5), ("two", 5), ("own", True), ("two", None)]:
                    held = self.refused(page, Held, kind, word)
                    self.assertEqual((held.many, held.room), (room, room))

    def test_the_least_hand_is_held_too(self):
        page = Page(0, 1, set_of([0, 2]), 2)
        page.utter("own", 1)
        page.utter("one", 1)
        held = self.refused(page, Held, "own", 1)
        self.assertEqual((held.many, held.room), (2, 2))

    def test_kind_and_word(self):
        page = Page(2, 1, set_of([0, 2]), 2)
        page.utter("own", 1)
        for kind in ("", "two", "Own", None, 5):
            self.refused(page, NoKind, kind, 5)
            self.refused(page, NoKind, kind, True)
        for kind in KINDS:
            for word in (True, False, None, "5", 10 ** 60, -(10 ** 60)):
                self.refused(page, NoWord, kind, word)
        self.assertEqual(page.utter("own", -SIXTY), [((1, 2, 2, "own", -SIXTY, ()), "ready")])

    def test_room_again_behind_a_floor_that_rose(self):
        pages = pages_of([0, 2, 5], room=2)
        pages[2].utter("own", 1)
        tell(pages, 2, 0)
        tell(pages, 2, 5)
        pages[2].utter("own", 2)
        tell(pages, 0, 2)
        self.assertEqual(self.refused(pages[2], Held, "own", 3).many, 2)
        tell(pages, 5, 2)
        self.assertEqual(pages[2].utter("own", 3), [((1, 2, 3, "own", 3, ()), "ready")])
        self.assertEqual(self.refused(pages[2], Held, "own", 4).many, 2)
        go_round(pages)
        go_round(pages)
        for word in (4, 5):
            pages[2].utter("own", word)
        self.assertEqual(self.refused(pages[2], Held, "own", 6).many, 2)


class Listening(unittest.TestCase):
    def test_of_two_hands(self):
        pages = pages_of([0, 2])
        pages[0].utter("own", 5)
        self.assertEqual(pages[0].kept(), [(1, 0, 1)])
        self.assertEqual(tell(pages, 0, 2), [((1, 0, 1, "own", 5, ()), "ready")])
        self.assertEqual((pages[2].taken(), pages[2].kept()), ({0: 1}, []))
        self.assertEqual(tell(pages, 2, 0), [])
        self.assertEqual((pages[0].taken(), pages[0].kept()), ({0: 1}, []))

    def test_a_call_is_let_go_only_where_all_have_taken_it(self):
        pages = pages_of([0, 2, 5])
        pages[0].utter("own", 5)
        tell(pages, 0, 2)
        tell(pages, 2, 0)
        self.assertEqual((pages[0].kept(), pages[2].kept()), ([(1, 0, 1)], [(1, 0, 1)]))
        tell(pages, 2, 5)
        self.assertEqual(pages[5].kept(), [])
        tell(pages, 5, 0)
        self.assertEqual((pages[0].kept(), pages[2].kept()), ([], [(1, 0, 1)]))
        tell(pages, 0, 2)
        self.assertEqual(pages[2].kept(), [])

    def test_heard_calls_wait_for_their_causes(self):
        pages = pages_of([0, 2, 5])
        pages[0].utter("own", 5)
        tell(pages, 0, 2)
        pages[2].utter("heard", 6)
        self.assertEqual(tell(pages, 2, 5, skip=1), [])
        self.assertEqual((pages[5].taken(), pages[5].kept()), ({}, [(1, 2, 1)]))
        self.assertEqual(told_names(tell(pages, 0, 5)), [(0, 1), (2, 1)])

    def test_an_own_call_waits_for_its_row_alone(self):
        pages = pages_of([0, 2, 5])
        pages[0].utter("own", 5)
        tell(pages, 0, 2)
        pages[2].utter("own", 6)
        pages[2].utter("own", 7)
        self.assertEqual(told_names(tell(pages, 2, 5, skip=2)), [])
        self.assertEqual(told_names(tell(pages, 2, 5, skip=1, many=1)), [(2, 1), (2, 2)])

    def test_the_order_taken_is_the_runs(self):
        pages = pages_of([0, 2, 5])
        pages[2].utter("own", 1)
        tell(pages, 2, 0)
        pages[0].utter("heard", 2)
        pages[0].utter("own", 3)
        self.assertEqual(told_names(tell(pages, 0, 5)), [(2, 1), (0, 1), (0, 2)])

    def test_heard_twice_late_and_in_another_order(self):
        ends = []
        for order in itertools.permutations(range(4)):
            pages = pages_of([0, 2, 5])
            pieces = []
            for word, kind in enumerate(("own", "heard", "one", "heard")):
                pages[0].utter(kind, word)
                pieces.append(pages[0].piece())
            taken = []
            for at in order:
                taken += pages[5].listen(pieces[at])
                self.assertEqual(pages[5].listen(pieces[at]), [])
            self.assertEqual(told_names(taken), [(0, 1), (0, 2), (0, 3), (0, 4)])
            self.assertEqual([why for told, why in taken], ["ready", "ready", "sure", "ready"])
            for at in order:
                before = state(pages[5])
                self.assertEqual(pages[5].listen(pieces[at]), [])
                self.assertEqual(state(pages[5]), before)
            ends.append(state(pages[5]))
        self.assertEqual(ends, ends[:1] * len(ends))

    def test_an_own_piece_brings_nothing(self):
        pages = pages_of([0, 2])
        old = [pages[0].piece()]
        for kind in KINDS:
            pages[0].utter(kind, 5)
            old.append(pages[0].piece())
        tell(pages, 0, 2)
        tell(pages, 2, 0)
        old.append(pages[0].piece())
        before = state(pages[0])
        for piece in old:
            self.assertEqual(pages[0].listen(piece), [])
            self.assertEqual(state(pages[0]), before)

    def test_calls_let_go_or_kept_already_are_not_kept_again(self):
        pages = pages_of([0, 2])
        pages[0].utter("own", 5)
        late = pages[0].piece()
        go_round(pages)
        self.assertEqual((pages[0].kept(), pages[2].kept()), ([], []))
        self.assertEqual(pages[2].listen(late), [])
        self.assertEqual(pages[2].kept(), [])

    def test_calls_kept_and_not_taken_are_kept_once(self):
        pages = pages_of([0, 2, 5])
        pages[2].utter("one", 6)
        tell(pages, 2, 5)
        before = pages[5].piece()
        for _ in range(2):
            self.assertEqual(tell(pages, 2, 5), [])
            self.assertEqual((pages[5].kept(), pages[5].piece()), ([(1, 2, 1)], before))

    def test_names_kept_are_sorted_whatever_came_first(self):
        pages = pages_of([0, 2, 10, 62])
        for hand in pages:
            pages[hand].utter("one", hand)
            pages[hand].utter("own", hand)
        for hand in (62, 0, 10):
            tell(pages, hand, 2, skip=1)
            tell(pages, hand, 2)
        names = [(1, hand, count) for hand in (0, 2, 10, 62) for count in (1, 2)]
        self.assertEqual(pages[2].kept(), names)
        self.assertIs(type(pages[2].kept()), list)
        self.assertEqual([told[:3] for told in pages[2].report(False)[2]], names)

    def test_calls_taken_and_still_kept_are_not_taken_again(self):
        pages = pages_of([0, 2, 5])
        pages[0].utter("own", 5)
        tell(pages, 0, 2)
        self.assertEqual(tell(pages, 0, 2), [])
        self.assertEqual((pages[2].taken(), pages[2].kept()), ({0: 1}, [(1, 0, 1)]))

    def test_listening_changes_nothing_at_the_teller(self):
        pages = pages_of([0, 2, 5])
        for kind in KINDS:
            pages[0].utter(kind, 5)
        before = state(pages[0])
        tell(pages, 0, 2)
        pages[2].utter("own", 1)
        self.assertEqual(state(pages[0]), before)


class Places(unittest.TestCase):
    def test_the_least_hand_gives_places_others_do_not(self):
        pages = pages_of([3, 4, 9])
        for hand in (4, 9):
            pages[hand].utter("one", hand)
            self.assertEqual(pages[hand].places(), [])
        tell(pages, 9, 4)
        self.assertEqual((pages[4].places(), pages[4].taken()), ([], {}))
        self.assertEqual(tell(pages, 9, 3), [])
        self.assertEqual(pages[3].places(), [(1, 9, 1)])
        pages[3].utter("one", 3)
        self.assertEqual(pages[3].places(), [(1, 9, 1), (1, 3, 1)])
        tell(pages, 4, 3)
        self.assertEqual(pages[3].places(), [(1, 9, 1), (1, 3, 1), (1, 4, 1)])

    def test_several_that_come_at_once_are_placed_by_rank(self):
        pages = pages_of([0, 2, 5])
        pages[5].utter("one", 1)
        pages[2].utter("one", 2)
        pages[2].utter("one", 3)
        tell(pages, 2, 5)
        tell(pages, 5, 0)
        self.assertEqual(pages[0].places(), [(1, 2, 1), (1, 2, 2), (1, 5, 1)])

    def test_a_one_call_that_is_not_free_is_given_no_place(self):
        pages = pages_of([0, 2, 5])
        pages[2].utter("own", 1)
        pages[2].utter("one", 2)
        tell(pages, 2, 0, skip=1)
        self.assertEqual(pages[0].places(), [])
        tell(pages, 2, 0)
        self.assertEqual(pages[0].places(), [(1, 2, 2)])

    def test_of_two_hands_both_must_be_able(self):
        pages = pages_of([0, 2])
        pages[2].utter("one", 7)
        self.assertEqual(tell(pages, 2, 0), [])
        self.assertEqual((pages[0].places(), pages[0].taken()), ([(1, 2, 1)], {}))
        self.assertEqual(tell(pages, 0, 2), [((1, 2, 1, "one", 7, ()), "sure")])
        self.assertEqual(pages[2].places(), [(1, 2, 1)])
        self.assertEqual(tell(pages, 2, 0), [((1, 2, 1, "one", 7, ()), "sure")])
        self.assertEqual(pages[0].kept(), [])

    def test_of_four_hands_three_must_be_able(self):
        pages = pages_of([0, 1, 2, 3])
        self.assertEqual(pages[0].utter("one", 7), [])
        self.assertEqual(tell(pages, 0, 1), [])
        self.assertEqual(tell(pages, 0, 2), [])
        self.assertEqual(tell(pages, 1, 0), [])
        self.assertEqual(pages[0].taken(), {})
        self.assertEqual(tell(pages, 2, 0), [((1, 0, 1, "one", 7, ()), "sure")])
        self.assertEqual(tell(pages, 2, 1), [((1, 0, 1, "one", 7, ()), "sure")])
        self.assertEqual(pages[2].taken(), {})

    def test_of_three_hands_two_must_be_able(self):
        pages = pages_of([0, 1, 2])
        pages[0].utter("one", 7)
        self.assertEqual(tell(pages, 0, 2), [((1, 0, 1, "one", 7, ()), "sure")])
        self.assertEqual(pages[0].taken(), {})
        self.assertEqual(tell(pages, 2, 0), [((1, 0, 1, "one", 7, ()), "sure")])

    def test_able_are_those_that_have_the_call_not_only_its_place(self):
        pages = pages_of([0, 1, 2])
        pages[0].utter("one", 7)
        self.assertEqual(tell(pages, 0, 1, many=0), [])
        self.assertEqual((pages[1].places(), pages[1].kept()), ([(1, 0, 1)], []))
        self.assertEqual(tell(pages, 1, 0), [])
        self.assertEqual(tell(pages, 0, 1), [((1, 0, 1, "one", 7, ()), "sure")])

    def test_calls_behind_it_come_with_it_in_turn(self):
        pages = pages_of([0, 2])
        for word, kind in enumerate(("one", "own", "one", "heard")):
            self.assertEqual(pages[0].utter(kind, word), [])
        self.assertEqual(tell(pages, 0, 2), [
            ((1, 0, 1, "one", 0, ()), "sure"), ((1, 0, 2, "own", 1, ()), "ready"),
            ((1, 0, 3, "one", 2, ()), "sure"), ((1, 0, 4, "heard", 3, ()), "ready"),
        ])

    def test_only_the_sure_ones_are_taken(self):
        pages = pages_of([0, 2])
        pages[0].utter("one", 1)
        tell(pages, 0, 2)
        pages[0].utter("one", 2)
        self.assertEqual(told_names(tell(pages, 2, 0)), [(0, 1)])
        self.assertEqual(pages[0].places(), [(1, 0, 1), (1, 0, 2)])

    def test_longer_places_become_its_own_shorter_ones_do_not(self):
        pages = pages_of([0, 1, 2, 3])
        short = pages[0].piece()
        pages[0].utter("one", 1)
        middle = pages[0].piece()
        pages[0].utter("one", 2)
        pages[2].listen(middle)
        self.assertEqual(pages[2].places(), [(1, 0, 1)])
        tell(pages, 0, 2)
        self.assertEqual(pages[2].places(), [(1, 0, 1), (1, 0, 2)])
        for piece in (short, middle, pages[3].piece()):
            pages[2].listen(piece)
            self.assertEqual(pages[2].places(), [(1, 0, 1), (1, 0, 2)])
        tell(pages, 2, 3, many=0)
        self.assertEqual(pages[3].places(), [(1, 0, 1), (1, 0, 2)])

    def test_equally_long_places_do_not_become_its_own(self):
        # Pieces as a page of hand 0 tells them, had it given the first place to either call.
        pages = pages_of([0, 1, 2])
        pages[1].utter("one", 1)
        pages[2].utter("one", 2)
        first, second = Page(0, 1, 7, 8), Page(0, 1, 7, 8)
        first.listen(pages[1].piece())
        second.listen(pages[2].piece())
        hearer = Page(2, 1, 7, 8)
        hearer.listen(first.piece(many=0))
        hearer.listen(second.piece(many=0))
        self.assertEqual(hearer.places(), [(1, 1, 1)])


class Pieces(unittest.TestCase):
    def setUp(self):
        # Hand 9 says nothing, so that no call is let go.
        self.pages = pages_of([0, 2, 5, 9])
        self.pages[5].utter("own", 1)
        self.pages[2].utter("own", 2)
        self.pages[2].utter("heard", 3)
        self.pages[2].utter("one", 4)
        tell(self.pages, 5, 2)

    def brought(self, skip, many):
        hearer = Page(0, 1, set_of([0, 2, 5, 9]), 8)
        hearer.listen(self.pages[2].piece(skip, many))
        return hearer.kept()

    def test_of_skip_and_many(self):
        names = [(1, 2, 1), (1, 2, 2), (1, 2, 3), (1, 5, 1)]
        self.assertEqual(self.pages[2].kept(), names)
        for skip in (0, 1, 2, 3, 4, 5, 10 ** 6):
            for many in (None, 0, 1, 2, 3, 4, 5, 10 ** 6):
                with self.subTest(skip=skip, many=many):
                    answer = names[skip:] if many is None else names[skip:skip + many]
                    self.assertEqual(self.brought(skip, many), answer)

    def test_what_is_left_out(self):
        page = self.pages[2]
        self.assertEqual(page.piece(), page.piece(0, None))
        self.assertEqual(page.piece(1), page.piece(1, None))
        self.assertEqual(page.piece(many=2), page.piece(0, 2))
        self.assertEqual(page.piece(skip=1, many=2), page.piece(1, 2))

    def test_places_and_tables_are_in_each_piece(self):
        pages = pages_of([0, 2, 5])
        pages[0].utter("own", 1)
        pages[0].utter("one", 2)
        tell(pages, 0, 2)
        self.assertEqual(tell(pages, 2, 0, skip=9), [((1, 0, 2, "one", 2, ((0, 1),)), "sure")])
        tell(pages, 2, 5)
        tell(pages, 5, 0, many=0)
        self.assertEqual(pages[0].kept(), [])

    def test_they_are_tuples_of_plain_values(self):
        for page in self.pages.values():
            for value in (page.piece(), page.piece(1, 1), page.report(True), page.report(False)):
                self.assertIs(type(value), tuple)
                self.assertTrue(is_plain(value))

    def test_what_was_told_stays_as_it_was(self):
        piece, report = self.pages[2].piece(), self.pages[2].report(False)
        kept = repr((piece, report))
        self.pages[2].utter("own", 9)
        go_round(self.pages)
        self.assertEqual(repr((piece, report)), kept)

    def test_telling_changes_nothing(self):
        before = state(self.pages[2])
        self.pages[2].piece(1, 2)
        self.pages[2].report(True)
        self.assertEqual(state(self.pages[2]), before)

    def test_what_is_told_is_the_askers_own(self):
        pages = self.pages
        go_round(pages)
        for page in pages.values():
            before = state(page)
            page.taken()[0] = 9
            page.taken().clear()
            page.kept().append((1, 1, 1))
            page.kept().clear()
            page.places().append((1, 1, 1))
            page.places().clear()
            page.rows().clear()
            self.assertEqual(state(page), before)

    def test_what_a_deed_tells_is_the_askers_own(self):
        page = Page(4, 7, set_of([4]), 8)
        page.utter("own", 5).clear()
        self.assertEqual(page.rows(), [(7, 4, 1, "own", 5)])
        row = [(7, 4, 2, "own", 6, ())]
        page.finish(row).clear()
        row.clear()
        self.assertEqual(page.rows(), [(7, 4, 1, "own", 5), (7, 4, 2, "own", 6)])


class Reports(unittest.TestCase):
    def test_its_parts(self):
        pages = pages_of([0, 2, 5])
        pages[0].utter("own", 1)
        go_round(pages)
        go_round(pages)
        pages[5].utter("own", 2)
        pages[2].utter("one", 3)
        pages[2].utter("own", 4)
        tell(pages, 5, 2)
        calls = ((1, 2, 1, "one", 3, ((0, 1),)), (1, 2, 2, "own", 4, ()), (1, 5, 1, "own", 2, ()))
        for leaves in (True, False):
            self.assertEqual(pages[2].report(leaves), (2, ((0, 1),), calls, (), leaves))
            self.assertIs(pages[2].report(leaves)[4], leaves)
        tell(pages, 2, 0)
        # Hand 0 knows that all three have taken hand 5's call, and lets it go.
        self.assertEqual(pages[0].report(False), (0, ((0, 1), (5, 1)), calls[:2], ((1, 2, 1),), False))

    def test_the_floor_is_of_what_is_taken_not_of_what_can_be(self):
        pages = pages_of([0, 2])
        pages[0].utter("one", 1)
        tell(pages, 0, 2)
        self.assertEqual(pages[2].taken(), {0: 1})
        self.assertEqual(pages[2].report(False)[1], ())
        tell(pages, 2, 0)
        self.assertEqual(pages[0].report(False)[1], ((0, 1),))


class Finishing(unittest.TestCase):
    def test_it_takes_what_it_has_not_taken(self):
        page = Page(2, 1, set_of([0, 2]), 8)
        page.utter("own", 1)
        page.utter("one", 2)
        row = ((1, 0, 1, "one", 7, ()), (1, 2, 1, "own", 1, ()), (1, 2, 2, "one", 2, ((2, 1),)),
               (1, 0, 2, "heard", 8, ((0, 1), (2, 1))))
        self.assertEqual(page.finish(row), [(row[0], "cut"), (row[2], "cut"), (row[3], "cut")])
        self.assertEqual(page.taken(), {0: 2, 2: 2})
        self.assertEqual(page.rows(), [(1, 0, 1, "one", 7), (1, 2, 2, "one", 2), (1, 0, 2, "heard", 8),
                                       (1, 2, 1, "own", 1)])

    def test_with_nothing_new(self):
        page = Page(2, 1, set_of([0, 2]), 8)
        page.utter("own", 1)
        page.utter("own", 2)
        for row in ((), [], [(1, 2, 1, "own", 1, ())], ((1, 2, 1, "own", 1, ()), (1, 2, 2, "own", 2, ()))):
            self.assertEqual(page.finish(row), [])
            self.assertEqual(page.taken(), {2: 2})
            self.assertEqual(page.rows(), [(1, 2, 1, "own", 1), (1, 2, 2, "own", 2)])

    def test_in_the_rows_order(self):
        row = [(1, 5, 1, "own", 1, ()), (1, 0, 1, "heard", 2, ()), (1, 5, 2, "one", 3, ()), (1, 0, 2, "one", 4, ())]
        page = Page(2, 1, set_of([0, 2, 5]), 8)
        kept = list(row)
        self.assertEqual(page.finish(row), [(told, "cut") for told in row])
        self.assertEqual(row, kept)
        self.assertEqual([row[:3] for row in page.rows()], [(1, 5, 2), (1, 0, 2), (1, 0, 1), (1, 5, 1)])


class Rows(unittest.TestCase):
    def test_one_calls_first_as_taken_then_the_others_by_rank(self):
        pages = pages_of([0, 2, 5])
        pages[5].utter("one", 1)
        go_round(pages)
        pages[5].utter("own", 2)
        pages[2].utter("heard", 3)
        go_round(pages)
        pages[0].utter("one", 4)
        pages[0].utter("own", 5)
        go_round(pages)
        go_round(pages)
        rows = [(1, 5, 1, "one", 1), (1, 0, 1, "one", 4), (1, 0, 2, "own", 5), (1, 2, 1, "heard", 3),
                (1, 5, 2, "own", 2)]
        for page in pages.values():
            self.assertEqual(page.rows(), rows)
            self.assertIs(type(page.rows()), list)


class Traffic:
    """Pages of one list, with calls and pieces in whatever order, and what must hold of them all along."""

    def __init__(self, test, seed, size):
        self.test = test
        self.chance = random.Random(seed)
        hands = sorted(self.chance.sample(range(63), size))
        self.pages = pages_of(hands, number=seed, room=self.chance.choice([1, 2, 5, 60]))
        self.least = self.pages[hands[0]]
        self.made = {}
        self.pieces = []

    def utter(self):
        hand = self.chance.choice(sorted(self.pages))
        before = self.pages[hand].taken()
        try:
            taken = self.pages[hand].utter(self.chance.choice(KINDS), len(self.pieces))
        except Held as held:
            self.test.assertEqual(held.many, held.room)
            return
        self.made[hand] = self.made.get(hand, 0) + 1
        self.check_row(before, taken)
        self.check()

    def tell(self):
        page = self.chance.choice(list(self.pages.values()))
        skip, many = self.chance.choice([(0, None), (0, None), (1, None), (0, 1), (1, 2), (0, 0)])
        self.pieces.append(page.piece(skip, many))

    def hear(self):
        if self.pieces:
            at = self.chance.randrange(len(self.pieces))
            piece = self.pieces[at] if self.chance.random() < 0.5 else self.pieces.pop(at)
            hand = self.chance.choice(sorted(self.pages))
            before = self.pages[hand].taken()
            self.check_row(before, self.pages[hand].listen(piece))
            self.check()

    def check_row(self, before, taken):
        counts = dict(before)
        for told, why in taken:
            self.test.assertEqual(counts.get(told[1], 0), told[2] - 1)
            self.test.assertTrue(covers(counts, unpacked(told[5])))
            self.test.assertEqual(why, "sure" if told[3] == "one" else "ready")
            counts[told[1]] = told[2]

    def check(self):
        places = self.least.places()
        for page in self.pages.values():
            took = ones(page)
            self.test.assertEqual(took, places[:len(took)])
            kept = page.kept()
            for row in page.rows():
                if row[:3] not in kept:
                    for other in self.pages.values():
                        self.test.assertTrue(covers_name(other.taken(), row[:3]))

    def go(self, deeds):
        for _ in range(deeds):
            self.chance.choice([self.utter, self.tell, self.tell, self.hear, self.hear, self.hear])()


class AllTogether(unittest.TestCase):
    SIZES = (1, 2, 2, 3, 3, 4, 4, 5, 7)

    def traffics(self):
        for seed in range(45):
            size = self.SIZES[seed % len(self.SIZES)]
            with self.subTest(seed=seed, size=size):
                traffic = Traffic(self, seed, size)
                traffic.go(70)
                yield traffic

    def test_three_rounds_of_all(self):
        for traffic in self.traffics():
            pages = traffic.pages
            for _ in range(3):
                go_round(pages)
                traffic.check()
            for page in pages.values():
                self.assertEqual((page.taken(), page.kept()), (traffic.made, []))
                self.assertEqual(page.rows(), traffic.least.rows())
                self.assertEqual(ones(page), traffic.least.places())
            self.assertEqual(len(traffic.least.rows()), sum(traffic.made.values()))

    def test_three_rounds_of_more_than_half(self):
        for traffic in self.traffics():
            pages = traffic.pages
            hands = sorted(pages)
            some = [hands[0]] + traffic.chance.sample(hands[1:], len(hands) // 2)
            self.assertTrue(more_than_half(set_of(some), set_of(hands)))
            for _ in range(3):
                go_round(pages, some)
                traffic.check()
            for hand in some:
                for maker in some:
                    self.assertEqual(pages[hand].taken().get(maker, 0), traffic.made.get(maker, 0))

    def test_simple_rounds_of_two_three_and_four(self):
        for hands in ([0, 1], [3, 62], [0, 1, 2], [5, 9, 60], [0, 1, 2, 3], [7, 8, 30, 62]):
            for kinds in (("own",), ("heard",), ("one",), KINDS, ("one", "own")):
                pages = pages_of(hands)
                for turn in range(5):
                    for hand in reversed(hands):
                        pages[hand].utter(kinds[(turn + hand) % len(kinds)], turn)
                for _ in range(3):
                    go_round(pages)
                for page in pages.values():
                    self.assertEqual((page.taken(), page.kept()), ({hand: 5 for hand in hands}, []))
                    self.assertEqual(page.rows(), pages[hands[0]].rows())

    def test_less_than_half_take_no_one_calls(self):
        pages = pages_of([0, 1, 2, 3])
        pages[0].utter("one", 1)
        for _ in range(5):
            go_round(pages, [0, 1])
        self.assertEqual((pages[0].taken(), pages[1].taken()), ({}, {}))
        self.assertEqual(pages[1].places(), [(1, 0, 1)])


if __name__ == "__main__":
    unittest.main()
