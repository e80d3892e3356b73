"""Hand: one of a group, with the list in which it stands, its letters and its events.

A letter is ("in", hand, number, plan, book, piece, message) of a hand that stands in a list, where the plan is the
one by which the list came; else it is ("away", hand, wish, last), where last is None or (plan, number).
"""

from groupcall.change import Change
from groupcall.errors import IsIn, NoHand, NoHands, NotIn, Stopped
from groupcall.page import Page
from groupcall.plans import first_plan
from groupcall.sets import bit_of, has, is_hand, is_set


def take_event(told, why):
    return ("take", told[:3], told[3], told[4], told[5], why)


def names_lacking(events, book):
    in_book = dict([(row[:3], True) for row in book])
    return [event[1] for event in events if event[0] == "take" and event[1] not in in_book]


class Hand:
    def __init__(self, me, hands, number=1, room=8):
        if not is_hand(me):
            raise NoHand("a hand is a whole number from 0 to 62")
        if not is_set(hands) or hands == 0:
            raise NoHands("a list has a set of at least one hand")
        self.me = me
        self.room = room
        # The greatest of the first list's number and those of all lists stood in or heard of.
        self.newest = number
        # The page and the change of the list in which it stands, and the plan by which this list came.
        self.page = None
        self.change = None
        self.came_by = None
        # The plan by which it went out, with the number of the list that it was out of.
        self.went_by = None
        self.past = ()
        self.log = []
        self.lost = []
        self.doubts = 0
        self.noted = 0
        self.wants_out = False
        self.wants_in = False
        if has(hands, me):
            self.enter(number, (0, hands, hands, ()))

    def call(self, kind, word):
        self.check_free()
        self.note_taken(self.page.utter(kind, word))
        return (self.page.number, self.me, self.page.made)

    def renew(self, more=1):
        self.check_in()
        start = len(self.log)
        self.change.begin(more, self.page.report(self.wants_out))
        self.settle()
        return self.log[start:]

    def suspect(self, hands):
        start = len(self.log)
        self.doubts = hands & ~bit_of(self.me)
        self.settle()
        return self.log[start:]

    def leave(self):
        self.check_free()
        self.wants_out = True

    def come(self):
        if self.page is not None:
            raise IsIn("it stands in a list")
        self.wants_in = True

    def letter(self, skip=0, many=None):
        if self.page is None:
            return ("away", self.me, self.wants_in, self.went_by)
        report = None if self.stopped() is None else self.page.report(self.wants_out)
        piece = self.page.piece(skip, many)
        return ("in", self.me, self.page.number, self.came_by, self.past, piece, self.change.message(report))

    def hear(self, letter):
        start = len(self.log)
        if letter[1] != self.me:
            if letter[0] == "in":
                self.hear_standing(letter)
            else:
                self.hear_away(letter)
        return self.log[start:]

    def check_in(self):
        if self.page is None:
            raise NotIn("it stands in no list")

    def check_free(self):
        self.check_in()
        if self.stopped() is not None:
            raise Stopped(self.stopped())

    def stands_in(self, number):
        return self.page is not None and self.page.number == number

    def note_taken(self, taken):
        self.log.extend([take_event(told, why) for told, why in taken])

    def enter(self, number, plan):
        self.page = Page(self.me, number, plan[1], self.room)
        self.change = Change(self.me, plan[1])
        self.came_by = plan
        self.went_by = None
        self.newest = max(self.newest, number)
        self.noted = self.noted & ~plan[1]
        self.wants_in = False
        self.log.append(("list", number, plan[1], plan[0], plan[2]))

    def go_out(self):
        self.log.append(("out", self.page.number))
        self.page = None
        self.change = None
        self.came_by = None
        self.wants_out = False

    def go_by(self, plan):
        number = self.page.number
        goes_on = has(plan[0], self.me)
        if goes_on:
            self.note_taken(self.page.finish(plan[3]))
            self.past = self.past + tuple(self.page.rows())
        if goes_on and has(plan[1], self.me):
            self.enter(number + 1, plan)
        else:
            self.go_out()
            self.went_by = (plan, number)

    def settle(self):
        if self.page is None:
            return
        hands = self.page.hands
        wishes = self.noted & ~self.doubts
        self.change.propose(self.doubts, lambda reports: first_plan(self.me, hands, reports, wishes))
        plan = self.change.settled()
        if plan is not None:
            self.go_by(plan)

    def hear_away(self, letter):
        last = letter[3]
        if last is not None and self.stands_in(last[1]):
            self.go_by(last[0])
        if letter[2] and self.page is not None and not has(self.page.hands, letter[1]):
            self.noted = self.noted | bit_of(letter[1])

    def hear_standing(self, letter):
        number = letter[2]
        if self.page is not None and self.page.number < number - 1:
            self.go_out()
        if self.page is None:
            self.come_new(letter)
        elif self.stands_in(number - 1):
            self.go_by(letter[3])
        if self.stands_in(number):
            self.hear_fellow(letter)
        self.newest = max(self.newest, number)

    def come_new(self, letter):
        if letter[2] > self.newest and has(letter[3][2], self.me):
            self.lost = names_lacking(self.log, letter[4])
            self.past = letter[4]
            self.enter(letter[2], letter[3])

    def hear_fellow(self, letter):
        if self.stopped() is None:
            self.note_taken(self.page.listen(letter[5]))
        self.change.receive(letter[6])
        self.settle()

    def events(self):
        return list(self.log)

    def standing(self):
        return None if self.page is None else (self.page.number, self.page.hands)

    def taken(self):
        return {} if self.page is None else self.page.taken()

    def kept(self):
        return [] if self.page is None else self.page.kept()

    def places(self):
        return [] if self.page is None else self.page.places()

    def strays(self):
        return list(self.lost)

    def stopped(self):
        return None if self.change is None else self.change.ballot

    def book(self):
        return self.past
