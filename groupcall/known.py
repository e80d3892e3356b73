"""Known: a table of what is known of each hand of a set."""

from groupcall.counts import common, covers_name, joined, packed, unpacked
from groupcall.sets import hands_of


class Known:
    def __init__(self, hands):
        # The keys rise and never change: the set's hands, each with its row.
        self.learnt = dict([(hand, {}) for hand in hands_of(hands)])

    def learn(self, hand, counts):
        if hand in self.learnt:
            self.learnt[hand] = joined(self.learnt[hand], counts)

    def row_of(self, hand):
        return dict(self.learnt.get(hand, {}))

    def floor(self):
        return common(list(self.learnt.values()))

    def reach(self, name):
        return len([row for row in self.learnt.values() if covers_name(row, name)])

    def sure(self, places):
        so_many = 0
        for name in places:
            if 2 * self.reach(name) <= len(self.learnt):
                break
            so_many = so_many + 1
        return so_many

    def listed(self):
        return tuple([(hand, packed(row)) for hand, row in self.learnt.items() if row != {}])

    def merge(self, listed):
        for hand, row in listed:
            self.learn(hand, unpacked(row))
