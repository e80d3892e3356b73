"""Page: what one hand of a list does in that list while no change touches it."""

from groupcall.calls import call_of, make_call
from groupcall.counts import count_of, covers_name, packed
from groupcall.errors import Held
from groupcall.known import Known
from groupcall.sets import least
from groupcall.taking import by_rank, placed, run


def why_of(call):
    return "sure" if call.asks_place() else "ready"


class Page:
    def __init__(self, me, number, hands, room):
        self.me = me
        self.number = number
        self.hands = hands
        self.room = room
        self.made = 0
        self.done = {}
        self.took = []
        self.keeps = {}
        self.order = []
        self.taken_by = Known(hands)
        self.able_by = Known(hands)

    def check_room(self):
        held = self.made - count_of(self.taken_by.floor(), self.me)
        if held >= self.room:
            raise Held(held, self.room)

    def keep(self, call):
        self.keeps[call.name()] = call

    def kept_calls(self):
        return by_rank(list(self.keeps.values()))

    def utter(self, kind, word):
        self.check_room()
        call = make_call(self.number, self.me, self.made + 1, kind, word, packed(self.done))
        self.made = call.count
        self.keep(call)
        return self.step()

    def step(self):
        calls = self.kept_calls()
        if self.me == least(self.hands):
            self.order = placed(self.done, calls, self.order)[1]
        self.able_by.learn(self.me, run(self.done, calls, self.order)[1])
        sure_places = self.order[:self.able_by.sure(self.order)]
        row = run(self.done, calls, sure_places)[0]
        for call in row:
            self.take(call)
        self.taken_by.learn(self.me, self.done)
        self.let_go()
        return [(call.told(), why_of(call)) for call in row]

    def take(self, call):
        self.done[call.caller] = call.count
        self.took.append(call)

    def let_go(self):
        floor = self.taken_by.floor()
        self.keeps = dict([(name, call) for name, call in self.keeps.items() if not covers_name(floor, name)])

    def piece(self, skip=0, many=None):
        calls = self.kept_calls()[skip:]
        if many is not None:
            calls = calls[:many]
        told = tuple([call.told() for call in calls])
        return (self.me, tuple(self.order), self.taken_by.listed(), self.able_by.listed(), told)

    def listen(self, piece):
        if piece[0] == self.me:
            return []
        self.keep_new(piece[4])
        if len(piece[1]) > len(self.order):
            self.order = list(piece[1])
        self.taken_by.merge(piece[2])
        self.able_by.merge(piece[3])
        return self.step()

    def keep_new(self, calls):
        for told in calls:
            call = call_of(told)
            if not covers_name(self.done, call.name()) and call.name() not in self.keeps:
                self.keep(call)

    def report(self, leaves):
        calls = tuple([call.told() for call in self.kept_calls()])
        return (self.me, packed(self.taken_by.floor()), calls, tuple(self.order), leaves)

    def finish(self, row):
        cut = []
        for call in [call_of(told) for told in row]:
            if not covers_name(self.done, call.name()):
                self.take(call)
                cut.append((call.told(), "cut"))
        return cut

    def rows(self):
        ones = [call for call in self.took if call.asks_place()]
        others = [call for call in self.took if not call.asks_place()]
        return [call.told()[:5] for call in ones + by_rank(others)]

    def taken(self):
        return dict(self.done)

    def kept(self):
        return sorted(list(self.keeps))

    def places(self):
        return list(self.order)
