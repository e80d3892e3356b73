"""What can be taken: places, runs over calls, and how places are given."""

from groupcall.counts import count_of, covers_name, joined


def rank_of(call):
    return call.rank()


def by_rank(calls):
    return sorted(calls, key=rank_of)


def first_open(places, counts, start):
    at = start
    while at < len(places) and covers_name(counts, places[at]):
        at = at + 1
    return at


def name_at(places, at):
    return places[at] if at < len(places) else None


def next_name(places, counts):
    return name_at(places, first_open(places, counts, 0))


def can_be_taken(call, counts, name):
    return call.free(counts) and (not call.asks_place() or call.name() == name)


def first_to_take(callers, ranked, counts, name):
    # Of each caller only the call with the next count can be free, so the others need no look.
    for caller in callers:
        call = ranked.get((caller, count_of(counts, caller) + 1))
        if call is not None and can_be_taken(call, counts, name):
            return call
    return None


def callers_from(callers, last):
    # The last one's caller comes first: its next call is of greater rank than the one taken last.
    return [caller for caller in callers if caller >= last] + [caller for caller in callers if caller < last]


def run(counts, calls, places):
    reached = joined(counts, {})
    ranked = dict([(rank_of(call), call) for call in calls])
    callers = sorted(set([call.caller for call in calls]))
    row = []
    # Counts only grow in a run, so names once covered stay so, and the search goes on where it stood.
    at = first_open(places, reached, 0)
    call = first_to_take(callers, ranked, reached, name_at(places, at))
    while call is not None:
        row.append(call)
        reached[call.caller] = call.count
        at = first_open(places, reached, at)
        call = first_to_take(callers_from(callers, call.caller), ranked, reached, name_at(places, at))
    return (row, reached)


def least_asking(calls, counts):
    return min([call for call in calls if call.asks_place() and call.free(counts)], key=rank_of, default=None)


def placed(counts, calls, places):
    given = list(places)
    told = run(counts, calls, given)
    row = told[0]
    call = least_asking(calls, told[1])
    while call is not None:
        given = given[:first_open(given, told[1], 0)] + [call.name()]
        told = run(told[1], calls, given)
        row = row + told[0]
        call = least_asking(calls, told[1])
    return (row, given)
