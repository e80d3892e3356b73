"""Change: what one hand of a set keeps of how the set agrees on one plan.

A ballot is a tuple (round, hand), a yes a tuple (ballot, plan), a message a tuple
(hand, ballot, yes, votes, report).
"""

from groupcall.sets import bit_of, more_than_half, set_of


def is_greater(one, other):
    # None is less than every ballot.
    return one is not None and (other is None or one > other)


def ballot_of(yes):
    return None if yes is None else yes[0]


def greatest_yes(some):
    greatest = None
    for yes in some:
        if is_greater(ballot_of(yes), ballot_of(greatest)):
            greatest = yes
    return greatest


def own_copy(value):
    # A report or a plan may be any value: what is done elsewhere to a list or dict in it must not be seen here.
    if isinstance(value, list):
        return [own_copy(part) for part in value]
    if isinstance(value, tuple):
        return tuple([own_copy(part) for part in value])
    if isinstance(value, dict):
        return dict([(key, own_copy(part)) for key, part in value.items()])
    return value


class Change:
    def __init__(self, me, hands):
        self.me = me
        self.hands = hands
        self.ballot = None
        self.yes = None
        self.votes = 0
        # For each hand that told one: its report, and the yes that came with it.
        self.reports = {}
        self.agreed = None

    def begin(self, more, report):
        last = 0 if self.ballot is None else self.ballot[0]
        self.ballot = (last + more, self.me)
        self.reports = {self.me: (own_copy(report), self.yes)}

    def message(self, report):
        return own_copy((self.me, self.ballot, self.yes, self.votes, report))

    def receive(self, message):
        if message[0] == self.me:
            return
        own = own_copy(message)
        self.see_ballot(own[1])
        self.see_yes(own[2], own[3])
        if own[1] == self.ballot and self.gathers():
            self.reports[own[0]] = (own[4], own[2])
        self.see_votes()

    def see_ballot(self, ballot):
        if is_greater(ballot, self.ballot):
            self.ballot = ballot
            self.reports = {}

    def see_yes(self, yes, votes):
        if yes is None:
            return
        if yes[0] == self.ballot and is_greater(yes[0], ballot_of(self.yes)):
            self.yes = yes
            self.votes = votes | bit_of(self.me)
        elif yes[0] == ballot_of(self.yes):
            self.votes = self.votes | votes

    def gathers(self):
        return self.ballot is not None and self.ballot[1] == self.me and ballot_of(self.yes) != self.ballot

    def propose(self, doubts, make):
        if not self.gathers() or not self.has_enough(doubts):
            return False
        yes = greatest_yes([kept[1] for kept in self.reports.values()])
        plan = self.made_by(make) if yes is None else yes[1]
        self.yes = (self.ballot, plan)
        self.votes = bit_of(self.me)
        self.see_votes()
        return True

    def has_enough(self, doubts):
        reporting = set_of(list(self.reports))
        return (self.hands & ~doubts & ~reporting) == 0 and more_than_half(reporting, self.hands)

    def made_by(self, make):
        return own_copy(make([own_copy(self.reports[hand][0]) for hand in sorted(self.reports)]))

    def see_votes(self):
        if self.agreed is None and more_than_half(self.votes, self.hands):
            self.agreed = self.yes[1]

    def settled(self):
        return own_copy(self.agreed)
