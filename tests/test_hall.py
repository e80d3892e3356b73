import random
import unittest

from groupcall.errors import (GroupError, Held, IsIn, NoHand, NoHands, NoKind, NoLetter, NoRow, NotIn, Stopped)
from groupcall.hall import Hall
from groupcall.hands import Hand
from groupcall.judge import fault
from groupcall.sets import hands_of, set_of

ALL = ",".join(str(hand) for hand in range(63))
SIXTY = "9" * 60
# A row of each form.
GOOD = ("call 0 own 5", "post 0", "post 0 0 1", "hear 1 1", "suspect 0 1", "leave 0", "come 8", "round 0,1", "show 0",
        "log 0", "save 0", "judge", "renew 0", "renew 0 2")
# What a random row asks for, and how often.
DEEDS = ("call", "post", "hear", "suspect", "renew", "leave", "come", "round", "show", "log", "save", "judge")
OFTEN = (20, 20, 40, 3, 4, 2, 6, 2, 1, 1, 3, 1)


def said(hall, *rows):
    """What the last one of the rows is answered."""
    for row in rows:
        answer = hall.say(row)
    return answer


def whole_state(hall):
    """All that rows tell of a hall without changing it."""
    return ([(hall.say(f"show {hand}"), hall.say(f"log {hand}")) for hand in range(63)], hall.say("judge"))


class Making(unittest.TestCase):
    def test_no_hands(self):
        for hands in (0, -1, -(1 << 62), 1 << 63, (1 << 63) + 1, 10 ** 30, True, False, None, "5", [0, 2]):
            with self.assertRaises(NoHands) as caught:
                Hall(hands)
            self.assertIs(type(caught.exception), NoHands)

    def test_hands_at_the_edges(self):
        self.assertEqual(Hall(1).say("show 0"), "in 1 0")
        self.assertEqual(Hall(1 << 62).say("show 62"), "in 1 62")
        self.assertEqual(Hall((1 << 63) - 1).say("show 31"), "in 1 " + ALL)

    def test_all_hands_are_there(self):
        hall = Hall(set_of([0, 2, 62]))
        for hand in range(63):
            self.assertEqual(hall.say(f"show {hand}"), "in 1 0,2,62" if hand in (0, 2, 62) else "away")
            self.assertEqual(hall.say(f"log {hand}"), "list 1 0,2,62 - 0,2,62" if hand in (0, 2, 62) else "none")

    def test_number_and_room_left_out(self):
        hall = Hall(3)
        for count in range(1, 9):
            self.assertEqual(hall.say("call 0 own 5"), f"1 0 {count}")
        with self.assertRaises(Held) as caught:
            hall.say("call 0 own 5")
        self.assertEqual((caught.exception.many, caught.exception.room), (8, 8))

    def test_number_and_room_told(self):
        for number in (0, 7, 10 ** 18):
            hall = Hall(3, number, 2)
            self.assertEqual(hall.say("show 1"), f"in {number} 0,1")
            self.assertEqual(hall.say("call 1 one 5"), f"{number} 1 1")
            self.assertEqual(hall.say("call 1 one 5"), f"{number} 1 2")
            with self.assertRaises(Held) as caught:
                hall.say("call 1 one 5")
            self.assertEqual((caught.exception.many, caught.exception.room), (2, 2))
        self.assertEqual(Hall(hands=3, number=4, room=1).say("show 0"), "in 4 0,1")
        self.assertEqual(Hall(3, room=1).say("show 0"), "in 1 0,1")

    def test_halls_know_nothing_of_one_another(self):
        one, other = Hall(3), Hall(3)
        before = whole_state(other)
        said(one, "call 0 own 5", "post 0", "hear 1 1", "renew 0", "round 0,1", "come 9")
        self.assertEqual(whole_state(other), before)
        self.assertEqual(other.say("post 0"), "1")


class Answers(unittest.TestCase):
    def test_call(self):
        hall = Hall(3)
        self.assertEqual(hall.say("call 0 own 5"), "1 0 1")
        self.assertEqual(hall.say("call 0 heard -5"), "1 0 2")
        self.assertEqual(hall.say("call 0 one 0"), "1 0 3")
        self.assertEqual(hall.say(f"call 1 own {SIXTY}"), "1 1 1")
        self.assertEqual(hall.say(f"call 1 own -{SIXTY}"), "1 1 2")
        self.assertEqual(hall.say("log 0"), "list 1 0,1 - 0,1; take 1 0 1 own 5 - ready; take 1 0 2 heard -5 0:1 ready")
        self.assertEqual(hall.say("log 1"),
                         f"list 1 0,1 - 0,1; take 1 1 1 own {SIXTY} - ready; take 1 1 2 own -{SIXTY} - ready")

    def test_letters_are_numbered_from_1_on(self):
        hall = Hall(3)
        rows = ("post 0", "post 1", "post 0 0 0", "post 62", "post 1 5 1000000", "post 0")
        self.assertEqual([hall.say(row) for row in rows], ["1", "2", "3", "4", "5", "6"])

    def test_a_letter_tells_what_was_when_it_was_posted(self):
        hall = Hall(3)
        said(hall, "post 0", "call 0 own 5", "post 0", "call 0 own 6")
        self.assertEqual(hall.say("hear 1 1"), "none")
        self.assertEqual(hall.say("hear 1 2"), "take 1 0 1 own 5 - ready")
        self.assertEqual(hall.say("hear 1 2"), "none")
        self.assertEqual(hall.say("post 0"), "3")
        self.assertEqual(hall.say("hear 1 3"), "take 1 0 2 own 6 - ready")
        self.assertEqual(hall.say("hear 1 1"), "none")

    def test_a_letter_of_its_own(self):
        hall = Hall(3)
        said(hall, "call 0 own 5", "post 0")
        self.assertEqual(hall.say("hear 0 1"), "none")

    def test_post_with_skip_and_many(self):
        calls = ["call 0 own 1", "call 0 own 2", "call 0 own 3"]
        takes = ["take 1 0 1 own 1 - ready", "take 1 0 2 own 2 - ready", "take 1 0 3 own 3 - ready"]
        for skip, many, rest in ((0, 0, []), (0, 1, takes[:1]), (0, 2, takes[:2]), (0, 3, takes), (0, 10 ** 6, takes),
                                 (0, SIXTY, takes), (1, 2, []), (10 ** 6, 10 ** 6, []), (SIXTY, SIXTY, [])):
            hall = Hall(3)
            said(hall, *calls, f"post 0 {skip} {many}")
            self.assertEqual(hall.say("hear 1 1"), "; ".join(rest) or "none")
        hall = Hall(3)
        said(hall, *calls, "post 0 1 1", "post 0 0 1", "post 0 2 1")
        self.assertEqual([hall.say(f"hear 1 {letter}") for letter in (1, 3, 2)], ["none", "none", "; ".join(takes)])

    def test_suspect(self):
        hall = Hall(7)
        for some in ("-", "0", "2", "0,1,2", "62", ALL):
            self.assertEqual(hall.say(f"suspect 0 {some}"), "none")
        said(hall, "suspect 0 -", "renew 0", "post 0", "hear 1 1", "post 1")
        self.assertEqual(hall.say("hear 0 2"), "none")
        # Now the report of hand 2 is not waited for, so there is a plan, and hand 1 says yes to it.
        self.assertEqual(hall.say("suspect 0 2"), "none")
        said(hall, "post 0")
        self.assertEqual(hall.say("hear 1 3"), "list 2 0,1 0,1 -")
        said(hall, "post 1")
        self.assertEqual(hall.say("hear 0 4"), "list 2 0,1 0,1 -")

    def test_a_hand_that_is_not_waited_for(self):
        hall = Hall(7)
        said(hall, "renew 0", "post 0", "hear 1 1", "hear 2 1", "post 1", "hear 0 2", "save 0", "suspect 0 2", "post 0")
        # It says yes to the plan, too, which leaves it out.
        self.assertEqual(hall.say("hear 2 3"), "out 1")

    def test_renew(self):
        hall = Hall(set_of([4]), 10 ** 18)
        self.assertEqual(hall.say("renew 4"), f"list {10 ** 18 + 1} 4 4 -")
        self.assertEqual(hall.say("renew 4 1"), f"list {10 ** 18 + 2} 4 4 -")
        self.assertEqual(hall.say("renew 4 1000000000"), f"list {10 ** 18 + 3} 4 4 -")
        self.assertEqual(hall.say(f"renew 4 {SIXTY}"), f"list {10 ** 18 + 4} 4 4 -")

    def ballot(self, hall, hand):
        with self.assertRaises(Stopped) as caught:
            hall.say(f"call {hand} own 1")
        return caught.exception.ballot

    def test_the_step_of_ballots(self):
        for row, more in (("renew 1", 1), ("renew 1 1", 1), ("renew 1 2", 2), ("renew 1 10", 10),
                          (f"renew 1 {SIXTY}", int(SIXTY))):
            hall = Hall(3)
            self.assertEqual(hall.say(row), "none")
            self.assertEqual(self.ballot(hall, 1), (more, 1))
            self.assertEqual(hall.say(row), "none")
            self.assertEqual(self.ballot(hall, 1), (2 * more, 1))

    def test_leave_and_come(self):
        hall = Hall(3)
        self.assertEqual(hall.say("leave 1"), "ok")
        self.assertEqual(hall.say("leave 1"), "ok")
        self.assertEqual(hall.say("come 9"), "ok")
        self.assertEqual(hall.say("come 9"), "ok")
        said(hall, "round 0,1,9", "renew 0", "round 0,1,9", "round 0,1,9", "round 0,1,9")
        self.assertEqual([hall.say(f"show {hand}") for hand in (0, 1, 9)], ["in 2 0,9", "away", "in 2 0,9"])
        self.assertEqual(hall.say("log 0"), "list 1 0,1 - 0,1; list 2 0,9 0,1 9")
        self.assertEqual(hall.say("log 1"), "list 1 0,1 - 0,1; out 1")
        self.assertEqual(hall.say("log 9"), "list 2 0,9 0,1 9")
        self.assertEqual(hall.say("judge"), "none")

    def test_round(self):
        hall = Hall(7)
        for row in ("call 2 own 1", "call 1 heard 2", "call 0 one 3"):
            hall.say(row)
        for row in ("round -", "round 0", "round 62", "round 60,61,62"):
            before = whole_state(hall)
            self.assertEqual(hall.say(row), "ok")
            self.assertEqual(whole_state(hall), before)
        self.assertEqual(hall.say("round 0,1"), "ok")
        self.assertEqual(hall.say("log 0"), "list 1 0,1,2 - 0,1,2; take 1 0 1 one 3 - sure; take 1 1 1 heard 2 - ready")
        self.assertEqual(hall.say("log 1"), "list 1 0,1,2 - 0,1,2; take 1 1 1 heard 2 - ready; take 1 0 1 one 3 - sure")
        self.assertEqual(hall.say("log 2"), "list 1 0,1,2 - 0,1,2; take 1 2 1 own 1 - ready")
        self.assertEqual(hall.say("round " + ALL), "ok")
        self.assertEqual(hall.say("post 0"), "1")

    def test_a_round_goes_from_the_least_on(self):
        hall = Hall(7)
        said(hall, "call 0 own 1", "call 1 own 2", "call 2 own 3", "round 0,1,2")
        self.assertEqual(hall.say("log 2"), "list 1 0,1,2 - 0,1,2; take 1 2 1 own 3 - ready; "
                                            "take 1 0 1 own 1 - ready; take 1 1 1 own 2 - ready")
        self.assertEqual(hall.say("log 0"), "list 1 0,1,2 - 0,1,2; take 1 0 1 own 1 - ready; "
                                            "take 1 1 1 own 2 - ready; take 1 2 1 own 3 - ready")

    def test_one_behind_the_other_in_a_round(self):
        # What hand 0 tells in a round hand 1 tells on to hand 2 in the same one.
        hall = Hall(7)
        said(hall, "call 0 heard 1", "post 0", "hear 1 1", "round 1,2")
        self.assertEqual(hall.say("log 2"), "list 1 0,1,2 - 0,1,2; take 1 0 1 heard 1 - ready")

    def test_show(self):
        hall = Hall(set_of([0, 9, 10, 62]), 12)
        self.assertEqual(hall.say("show 62"), "in 12 0,9,10,62")
        self.assertEqual(hall.say("show 1"), "away")

    def test_events_with_causes(self):
        hall = Hall(7)
        said(hall, "call 2 own 4", "post 2", "hear 0 1", "call 0 own 5", "call 0 heard 6", "call 0 heard -7", "post 0")
        self.assertEqual(hall.say("hear 1 2"), "take 1 0 1 own 5 - ready; take 1 2 1 own 4 - ready; "
                                               "take 1 0 2 heard 6 0:1,2:1 ready; take 1 0 3 heard -7 0:2,2:1 ready")

    def test_each_why(self):
        hall = Hall(7)
        said(hall, "call 1 one 4", "post 1")
        self.assertEqual(hall.say("hear 0 1"), "none")
        said(hall, "post 0")
        self.assertEqual(hall.say("hear 1 2"), "take 1 1 1 one 4 - sure")
        said(hall, "call 2 heard 3", "suspect 0 1", "renew 0", "post 0")
        self.assertEqual(hall.say("hear 2 3"), "take 1 1 1 one 4 - sure")
        said(hall, "post 2", "hear 0 4", "post 0")
        self.assertEqual(hall.say("hear 2 5"), "list 2 0,2 0,2 -")
        said(hall, "post 2")
        self.assertEqual(hall.say("hear 0 6"), "take 1 1 1 one 4 - cut; take 1 2 1 heard 3 - cut; list 2 0,2 0,2 -")
        self.assertEqual(hall.say("hear 1 6"), "out 1")
        self.assertEqual(hall.say("judge"), "none")

    def test_save(self):
        hall = Hall(7)
        said(hall, "call 0 one 3", "post 0", "hear 1 1", "call 1 heard 4", "come 9", "leave 2")
        before = whole_state(hall)
        for hand in range(63):
            self.assertEqual(hall.say(f"save {hand}"), "ok")
        self.assertEqual(whole_state(hall), before)
        self.assertEqual(hall.say("post 1"), "2")
        said(hall, "round 0,1,2,9", "renew 0", "round 0,1,2,9", "round 0,1,2,9")
        self.assertEqual([hall.say(f"show {hand}") for hand in (0, 1, 2, 9)], ["in 2 0,1,9", "in 2 0,1,9", "away",
                                                                               "in 2 0,1,9"])

    def test_a_saved_hand_stands_in_the_place_of_the_old_one(self):
        hall = Hall(3)
        old = hall.group[1]
        hall.say("save 1")
        hall.say("call 1 own 4")
        self.assertEqual(hall.say("log 1"), "list 1 0,1 - 0,1; take 1 1 1 own 4 - ready")
        self.assertEqual(old.events(), [("list", 1, 3, 0, 3)])


class Judging(unittest.TestCase):
    def test_none(self):
        hall = Hall(7)
        self.assertEqual(hall.say("judge"), "none")
        said(hall, "call 0 one 1", "come 9", "round 0,1,2,9")
        self.assertEqual(hall.say("judge"), "none")

    def test_a_fault_is_told(self):
        # No row brings a fault about, so one is put into what the hands keep.
        hall = Hall(7)
        hall.group[2].log.append(("out", 3))
        self.assertEqual(hall.say("judge"), "number 2 1")
        hall.group[1].log.append(("take", (1, 0, 2), "own", 1, (), "ready"))
        self.assertEqual(hall.say("judge"), "row 1 1")

    def test_a_fault_of_hands_that_the_first_list_lacks(self):
        hall = Hall(set_of([5]))
        said(hall, "come 3", "come 62", "round 3,5,62", "renew 5", "round 3,5,62")
        self.assertEqual([hall.say(f"log {hand}") for hand in (3, 62)], ["list 2 3,5,62 5 3,62"] * 2)
        hall.group[62].log[0] = ("list", 2, set_of([5, 62]), set_of([5]), set_of([62]))
        self.assertEqual(hall.say("judge"), "lists 62 0")
        hall.group[3].log.append(("out", 1))
        self.assertEqual(hall.say("judge"), "number 3 1")

    def test_by_hand_rising(self):
        hall = Hall(set_of([4, 7]))
        hall.group[4].log[0] = ("list", 1, set_of([4, 7, 9]), 0, set_of([4, 7, 9]))
        self.assertEqual(hall.say("judge"), "lists 7 0")


class Refusing(unittest.TestCase):
    def setUp(self):
        self.hall = Hall(7)
        said(self.hall, "call 0 one 3", "call 1 own 4", "post 0", "hear 1 1", "come 9")

    def refused(self, error, row, hall=None):
        hall = self.hall if hall is None else hall
        before = whole_state(hall)
        letters = [hand.letter() for hand in hall.group]
        with self.assertRaises(error, msg=repr(row)) as caught:
            hall.say(row)
        self.assertIs(type(caught.exception), error)
        self.assertEqual(whole_state(hall), before)
        self.assertEqual([hand.letter() for hand in hall.group], letters)
        return caught.exception

    def check_next_letter(self, number=2):
        self.assertEqual(self.hall.say("post 0"), str(number))

    def test_no_text(self):
        for row in (None, 0, 1, True, ["judge"], ("judge",), {"judge": 1}, b"judge", ["show", "0"]):
            self.refused(NoRow, row)
        self.check_next_letter()

    def test_none_of_those_listed(self):
        for row in ("", "-", "none", "ok", "Judge", "JUDGE", "judges", "judg", "call", "post", "hear", "suspect",
                    "renew", "leave", "come", "round", "show", "log", "save", "rounds 0,1", "tell 0", "Show 0",
                    "show\t0", "judge\n", "show 0\n", "\tjudge", "say judge", "0 show", "taken 0", "book 0"):
            self.refused(NoRow, row)
        self.check_next_letter()

    def test_a_word_too_few_or_too_many(self):
        for row in ("call 0 own", "call 0", "call 0 own 5 5", "call own 5", "post 0 0", "post 0 0 0 0", "hear 0",
                    "hear 0 1 1", "suspect 0", "suspect 0 1 2", "renew 0 1 1", "leave 0 0", "come 8 8", "round 0,1 2",
                    "round 0 1", "show 0 0", "log 0 0", "save 0 0", "judge 0", "judge judge", "judge -"):
            self.refused(NoRow, row)
        self.check_next_letter()

    def test_good_rows(self):
        for row in GOOD:
            self.assertIsInstance(self.hall.say(row), str)

    def test_blanks(self):
        for row in GOOD:
            doubled = [row[:at] + " " + row[at:] for at, sign in enumerate(row) if sign == " "]
            for wrong in [" " + row, row + " ", row + "\n", "\n" + row] + doubled:
                self.refused(NoRow, wrong)
        for row in (" ", "  ", "call  own 5", "call 0  5", "call 0 own ", "suspect 0 ", "round ", "renew 0 ", "hear 0 ",
                    "post 0  1", "post 0 1 "):
            self.refused(NoRow, row)
        self.check_next_letter()

    def test_no_numbers(self):
        for text in ("x", "-", "+", "+1", "-1", "-0", "+0", "00", "01", "007", "1.0", "1e1", "0x1", "1_0", "1,2", "1:2",
                     "one", "True", "None", "1-", "--1", "1\t", "1\n", "\n1", "9" * 61, "1" + "0" * 60, "0" * 60,
                     "0" * 61):
            for row in ("call {} own 5", "post {}", "post {} 0 0", "post 0 {} 0", "post 0 0 {}", "hear {} 1",
                        "hear 1 {}", "suspect {} -", "renew {}", "renew {} 1", "renew 0 {}", "leave {}", "come {}",
                        "show {}", "log {}", "save {}"):
                self.refused_quickly(NoRow, row.format(text))
        self.check_next_letter()

    def refused_quickly(self, error, row):
        with self.assertRaises(error, msg=repr(row)) as caught:
            self.hall.say(row)
        self.assertIs(type(caught.exception), error)

    def test_no_words(self):
        for text in ("x", "-", "+", "+1", "-0", "+0", "00", "01", "-01", "--1", "1-", "1.0", "1,2", "one", "True",
                     "- 1", "-x", "1\n", "-1\n", "-\n1", "9" * 61, "-" + "9" * 61, "1" + "0" * 60,
                     "-1" + "0" * 60, "0" * 61):
            self.refused(NoRow, f"call 0 own {text}")
        self.check_next_letter()

    def test_no_sets(self):
        for text in ("x", "+", "+1", "-1", "--", "-,1", "1,-", ",", "1,", ",1", "1,,2", "1,1", "2,1", "0,2,1", "0,1,1",
                     "01", "00", "0,01", "1;2", "1.2", "1-2", "0,1\n", "1\t", "[0]", "0,x", "none", "0:1", "9" * 61,
                     "0," + "9" * 61, "63,62", "64,63", "63,63", "0,64,1"):
            self.refused(NoRow, f"suspect 0 {text}")
            self.refused(NoRow, f"round {text}")
        self.check_next_letter()

    def test_a_more_of_0(self):
        self.refused(NoRow, "renew 0 0")
        self.refused(NoRow, "renew 9 0")
        self.refused(NoRow, "renew 63 0")
        self.check_next_letter()

    def test_a_hand_beyond_62(self):
        for hand in ("63", "64", "100", SIXTY):
            for row in ("call {} own 5", "call {} none 5", "post {}", "post {} 0 1", "hear {} 1", "hear {} 99",
                        "suspect {} -", "suspect {} 63", "suspect 0 {}", "suspect 0 0,62,{}", "renew {}", "renew {} 2",
                        "leave {}", "come {}", "round {}", "round 0,1,{}", "show {}", "log {}", "save {}"):
                self.refused_quickly(NoHand, row.format(hand))
        self.refused(NoHand, "suspect 0 63")
        self.refused(NoHand, "round 0,1,2,63")
        self.refused(NoHand, "round 62,63,64")
        self.check_next_letter()

    def test_a_row_that_is_none_comes_ahead_of_no_hand(self):
        for row in ("call 63 own x", "call 63 own", "post 63 0", "post 63 0 x", "hear 63 x", "hear 63 -1",
                    "suspect 63 x", "suspect 63 2,1", "suspect 63 63,63", "renew 63 0", "renew 63 x", "round 63,62",
                    "show 63 0", "suspect x 63", "judge 63"):
            self.refused(NoRow, row)

    def test_a_letter_that_is_not_kept(self):
        for number in ("0", "2", "3", "1000000", SIXTY):
            self.refused(NoLetter, f"hear 1 {number}")
            self.refused(NoLetter, f"hear 9 {number}")
            self.refused(NoHand, f"hear 63 {number}")
        self.check_next_letter()
        self.assertEqual(self.hall.say("hear 1 2"), "none")
        self.refused(NoLetter, "hear 1 3")
        self.refused(NoLetter, "hear 1 0")
        self.refused(NoLetter, "hear 1 1", Hall(7))

    def test_what_the_hand_refuses(self):
        for row in ("call 9 own 5", "call 9 none 5", "renew 9", "renew 9 2", "leave 9", "call 62 own 5"):
            self.refused(NotIn, row)
        for row in ("come 0", "come 2"):
            self.refused(IsIn, row)
        for kind in ("none", "Own", "ones", "5", "-", "own,one", "take", "own\n", "H"):
            self.refused(NoKind, f"call 0 {kind} 5")
        self.check_next_letter()

    def test_stopped_in_its_turn(self):
        said(self.hall, "renew 0 4")
        for row in ("call 0 own 5", "call 0 none 5", "leave 0"):
            self.assertEqual(self.refused(Stopped, row).ballot, (4, 0))
        self.refused(IsIn, "come 0")
        self.refused(NoRow, "call 0 none x")
        self.refused(NoRow, "renew 0 0")
        self.check_next_letter()

    def test_held_in_its_turn(self):
        hall = Hall(3, 1, 1)
        hall.say("call 0 own 5")
        for row in ("call 0 own 5", "call 0 none 5"):
            held = self.refused(Held, row, hall)
            self.assertEqual((held.many, held.room), (1, 1))
        hall.say("renew 0")
        self.refused(Stopped, "call 0 none 5", hall)
        self.refused(NoKind, "call 1 none 5", hall)

    def test_behind_refusals_all_goes_on(self):
        for row in ("call 0 none 5", "come 0", "hear 1 7", "renew 9", "post 63", "post 0 0", "judge 1"):
            with self.assertRaises(GroupError):
                self.hall.say(row)
        self.assertEqual(self.hall.say("call 0 own 5"), "1 0 2")
        self.check_next_letter()
        self.assertEqual(self.hall.say("hear 1 2"), "take 1 0 2 own 5 - ready")
        self.assertEqual(self.hall.say("judge"), "none")


def set_text(hands):
    return ",".join(map(str, hands_of(hands))) or "-"


def event_text(event):
    if event[0] == "list":
        return f"list {event[1]} {set_text(event[2])} {set_text(event[3])} {set_text(event[4])}"
    if event[0] == "out":
        return f"out {event[1]}"
    name = event[1]
    causes = ",".join(f"{hand}:{count}" for hand, count in event[4]) or "-"
    return f"take {name[0]} {name[1]} {name[2]} {event[2]} {event[3]} {causes} {event[5]}"


def events_text(events):
    return "; ".join(map(event_text, events)) or "none"


class Plain:
    """A hall told by its words: hands that are asked straight, and no saving."""

    def __init__(self, hands, number, room):
        self.hands = {hand: Hand(hand, hands, number, room) for hand in range(63)}
        self.named = {hand for hand in range(63) if hands >> hand & 1}
        self.letters = {}

    def say(self, row):
        deed, *words = row.split(" ")
        if deed == "judge":
            found = fault([(hand, self.hands[hand].events()) for hand in sorted(self.named)])
            return "none" if found is None else f"{found[0]} {found[1]} {found[2]}"
        if deed == "round":
            some = [] if words[0] == "-" else [int(hand) for hand in words[0].split(",")]
            self.named.update(some)
            for teller in some:
                for hearer in some:
                    if teller != hearer:
                        self.hands[hearer].hear(self.hands[teller].letter())
            return "ok"
        return self.say_of(self.hands[int(words[0])], deed, words[1:])

    def say_of(self, hand, deed, words):
        if deed == "call":
            answer = "{} {} {}".format(*hand.call(words[0], int(words[1])))
        elif deed == "post":
            self.letters[str(len(self.letters) + 1)] = hand.letter(*map(int, words))
            answer = str(len(self.letters))
        elif deed == "hear":
            answer = events_text(hand.hear(self.letters[words[0]]))
        elif deed == "suspect":
            answer = events_text(hand.suspect(set_of(map(int, words[0].split(",") if words[0] != "-" else []))))
        elif deed == "renew":
            answer = events_text(hand.renew(*map(int, words)))
        elif deed in ("leave", "come", "save"):
            if deed != "save":
                getattr(hand, deed)()
            answer = "ok"
        elif deed == "show":
            standing = hand.standing()
            answer = "away" if standing is None else f"in {standing[0]} {set_text(standing[1])}"
        else:
            answer = events_text(hand.events())
        self.named.add(hand.me)
        return answer


class Life:
    """Random rows for a hall."""

    def __init__(self, seed):
        self.chance = random.Random(seed)
        self.hands = sorted(self.chance.sample(range(63), self.chance.choice([1, 2, 3, 3, 4, 5, 6, 7])))
        self.first = self.chance.sample(self.hands, self.chance.randint(1, len(self.hands)))
        self.made = (set_of(self.first), self.chance.choice([0, 1, 10 ** 18]), self.chance.choice([1, 3, 8, 60]))
        self.letters = 0

    def some(self, share):
        return ",".join(str(hand) for hand in self.hands if self.chance.random() < share) or "-"

    def row(self):
        chance, me = self.chance, self.chance.choice(self.hands)
        deed = chance.choices(DEEDS, OFTEN)[0]
        if deed == "call":
            kind = chance.choice(["own", "heard", "one", "one", "one", "none"])
            return f"call {me} {kind} {chance.choice([0, -1, 25, -25, SIXTY])}"
        if deed == "post":
            piece = "" if chance.random() < 0.7 else f" {chance.randrange(4)} {chance.randrange(4)}"
            return f"post {me}{piece}"
        if deed == "hear":
            back = chance.randrange(self.letters + 1 if chance.random() < 0.2 else min(self.letters + 1, 6))
            return f"hear {me} {self.letters - back}"
        if deed == "suspect":
            return f"suspect {me} {self.some(chance.choice([0, 0.2, 0.5]))}"
        if deed == "renew":
            return f"renew {me}" + chance.choice(["", "", " 1", " 1000000000"])
        if deed == "round":
            return f"round {self.some(chance.choice([0.3, 0.6, 1]))}"
        return "judge" if deed == "judge" else f"{deed} {me}"


def outcome(hall, row):
    try:
        return hall.say(row)
    except GroupError as refusal:
        return (type(refusal), vars(refusal))


class Lives(unittest.TestCase):
    """Halls told random rows."""

    def live(self, seed, many, check):
        with self.subTest(seed=seed):
            life = Life(seed)
            hall = Hall(*life.made)
            for _ in range(many):
                row = life.row()
                answer = check(hall, row)
                if row.startswith("post"):
                    life.letters += 1
                    self.assertEqual(answer, str(life.letters))
            self.assertEqual(hall.say("judge"), "none")
            return life, hall

    def test_as_by_hands_asked_straight(self):
        refused = set()
        for seed in range(60):
            plain = Plain(*Life(seed).made)

            def check(hall, row):
                answer = outcome(hall, row)
                if isinstance(answer, tuple) and answer[0] is NoLetter:
                    self.assertNotIn(row.split(" ")[2], plain.letters)
                else:
                    self.assertEqual(outcome(plain, row), answer)
                if isinstance(answer, tuple):
                    refused.add(answer[0])
                return answer

            life, hall = self.live(seed, 300, check)
            for hand in range(63):
                for row in (f"log {hand}", f"show {hand}"):
                    self.assertEqual(hall.say(row), plain.say(row))
                self.assertEqual(hall.group[hand].letter(), plain.hands[hand].letter())
        self.assertEqual(refused, {NoLetter, NotIn, IsIn, Stopped, Held, NoKind})

    def takes(self, hall, hand, number):
        """The calls of the list of that number that the hand took, as NUMBER CALLER COUNT."""
        events = [event.split(" ") for event in hall.say(f"log {hand}").split("; ")]
        return [" ".join(words[1:4]) for words in events if words[:2] == ["take", number]]

    def test_calm(self):
        taken, lists = 0, set()
        for seed in range(1000, 1080):
            calls = []

            def check(hall, row):
                answer = outcome(hall, row)
                if row.startswith("call") and isinstance(answer, str):
                    calls.append(answer)
                return answer

            life, hall = self.live(seed, random.Random(seed).choice([0, 50, 400]), check)
            for hand in life.hands:
                hall.say(f"suspect {hand} -")
            for _ in range(4):
                hall.say("round " + ",".join(map(str, life.hands)))
                hall.say(f"save {life.chance.choice(life.hands)}")
            with self.subTest(seed=seed):
                number = self.check_calm(life, hall, calls)
                self.check_renewed(life, hall)
                lists.add(number)
                taken += any(call.split(" ")[0] == number for call in calls)
        self.assertGreater(taken, 10)
        self.assertGreater(len(lists), 10)

    def check_calm(self, life, hall, calls):
        shown = {hand: hall.say(f"show {hand}") for hand in life.hands}
        standing = [hand for hand in life.hands if shown[hand] != "away"]
        word, number, hands = shown[standing[0]].split(" ")
        self.assertEqual((word, hands), ("in", ",".join(map(str, standing))))
        for hand in standing:
            self.assertEqual(shown[hand], shown[standing[0]])
            self.assertEqual(sorted(self.takes(hall, hand, number)),
                             sorted(call for call in calls if call.split(" ")[0] == number))
        self.assertEqual(hall.say("judge"), "none")
        return number

    def check_renewed(self, life, hall):
        standing = [hand for hand in life.hands if hall.say(f"show {hand}") != "away"]
        away = [hand for hand in life.hands if hand not in standing]
        for hand in away:
            hall.say(f"come {hand}")
        for hand in standing[1:]:
            hall.say(f"leave {hand}")
        everybody = ",".join(map(str, life.hands))
        said(hall, f"round {everybody}", f"renew {standing[0]}", *[f"round {everybody}"] * 4)
        hands = ",".join(map(str, sorted(away + standing[:1])))
        for hand in life.hands:
            answer = hall.say(f"show {hand}")
            self.assertEqual(answer.split(" ")[2:] if answer != "away" else answer,
                             "away" if hand in standing[1:] else [hands])
        self.assertEqual(hall.say("judge"), "none")

    def test_more_than_half_go_on(self):
        done = 0
        for seed in range(2000, 2080):
            life, hall = self.live(seed, random.Random(seed).choice([0, 50, 300]), outcome)
            some = [hand for hand in life.hands if life.chance.random() < 0.7]
            hall.say("round " + (",".join(map(str, some)) or "-"))
            shown = [(hall.say(f"show {hand}").split(" "), hand) for hand in some]
            number = max([int(words[1]) for words, hand in shown if words[0] == "in"], default=None)
            those = [hand for words, hand in shown if words[0] == "in" and int(words[1]) == number]
            if number is None:
                continue
            hands = [int(hand) for hand in hall.say(f"show {those[0]}").split(" ")[2].split(",")]
            if 2 * len(those) > len(hands):
                with self.subTest(seed=seed):
                    self.check_newer(life, hall, those, number, hands)
                    done += len(those) < len(hands)
        self.assertGreater(done, 10)

    def check_newer(self, life, hall, those, number, hands):
        me = life.chance.choice(those)
        hall.say(f"suspect {me} " + (",".join(str(hand) for hand in hands if hand not in those) or "-"))
        if hall.say(f"show {me}") == f"in {number} " + ",".join(map(str, hands)):
            hall.say(f"renew {me}")
        for _ in range(4):
            hall.say("round " + ",".join(map(str, those)))
            hall.say(f"save {life.chance.choice(those)}")
        for hand in those:
            answer = hall.say(f"show {hand}")
            self.assertTrue(answer == "away" or int(answer.split(" ")[1]) > number)
        self.assertEqual(hall.say("judge"), "none")


if __name__ == "__main__":
    unittest.main()
