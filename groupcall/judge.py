"""The judge: goes over the histories of some hands and tells the first rule that is broken.

Events are ("list", number, hands, on, new), ("take", name, kind, word, causes, why) and ("out", number).
"""

from groupcall.counts import count_of, covers, unpacked
from groupcall.sets import has


class Record:
    def __init__(self):
        # Each by the numbers of lists, but what was told of calls, which is by their names.
        self.told_lists = {}
        self.told_calls = {}
        self.met_ones = {}
        self.gone_counts = {}


class Walk:
    def __init__(self, hand, record):
        # What is kept of one history while it is gone over; counts and ones are of the list it stands in.
        self.hand = hand
        self.record = record
        self.number = None
        self.newest = None
        self.counts = {}
        self.ones = 0

    def goes_on(self, event):
        return event[0] == "list" and self.number is not None

    def takes_one(self, event):
        return event[0] == "take" and event[2] == "one"

    def ones_on_record(self):
        return self.record.met_ones.get(self.number, [])

    def go_over(self, event):
        # Only behind all rules: what a broken rule compared with would never be asked for again.
        if event[0] == "list":
            self.go_over_list(event)
        elif event[0] == "take":
            self.go_over_take(event)
        else:
            self.number = None

    def go_over_list(self, event):
        self.record.told_lists.setdefault(event[1], event[2:5])
        if self.number is not None:
            self.record.gone_counts.setdefault(self.number, self.counts)
        self.number = event[1]
        self.newest = event[1]
        self.counts = {}
        self.ones = 0

    def go_over_take(self, event):
        name = event[1]
        self.record.told_calls.setdefault(name, event[2:5])
        if self.takes_one(event):
            if self.ones == len(self.ones_on_record()):
                self.record.met_ones[self.number] = self.ones_on_record() + [name]
            self.ones = self.ones + 1
        self.counts[name[1]] = name[2]


def breaks_number(walk, event):
    if event[0] == "list":
        falls = walk.newest is not None and event[1] <= walk.newest
        return falls or (walk.number is not None and event[1] != walk.number + 1)
    number = event[1][0] if event[0] == "take" else event[1]
    return walk.number is None or number != walk.number


def breaks_hands(walk, event):
    if event[0] != "list":
        return False
    came_among = event[3] if walk.goes_on(event) else event[4]
    return not has(event[2], walk.hand) or not has(came_among, walk.hand)


def breaks_row(walk, event):
    return event[0] == "take" and event[1][2] != count_of(walk.counts, event[1][1]) + 1


def breaks_causes(walk, event):
    return event[0] == "take" and event[2] != "own" and not covers(walk.counts, unpacked(event[4]))


def breaks_lists(walk, event):
    return event[0] == "list" and walk.record.told_lists.get(event[1], event[2:5]) != event[2:5]


def breaks_calls(walk, event):
    return event[0] == "take" and walk.record.told_calls.get(event[1], event[2:5]) != event[2:5]


def breaks_one(walk, event):
    met = walk.ones_on_record()
    if walk.goes_on(event):
        return walk.ones != len(met)
    if not walk.takes_one(event):
        return False
    if walk.ones < len(met):
        return met[walk.ones] != event[1]
    return walk.number in walk.record.gone_counts


def breaks_together(walk, event):
    return walk.goes_on(event) and walk.record.gone_counts.get(walk.number, walk.counts) != walk.counts


RULES = (
    ("number", breaks_number),
    ("hands", breaks_hands),
    ("row", breaks_row),
    ("causes", breaks_causes),
    ("lists", breaks_lists),
    ("calls", breaks_calls),
    ("one", breaks_one),
    ("together", breaks_together),
)


def first_broken(walk, event):
    for rule, breaks in RULES:
        if breaks(walk, event):
            return rule
    return None


def fault(told):
    record = Record()
    for hand, events in told:
        walk = Walk(hand, record)
        for place, event in enumerate(events):
            rule = first_broken(walk, event)
            if rule is not None:
                return (rule, hand, place)
            walk.go_over(event)
    return None
