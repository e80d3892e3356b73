"""Plans: what a list ends with, and who goes on from it, made of the reports of its hands.

A report is a tuple (hand, floor, calls, places, leaves), a plan a tuple (on, hands, new, row).
"""

from groupcall.calls import call_of
from groupcall.counts import covers_name, joined, unpacked
from groupcall.sets import bit_of, set_of
from groupcall.taking import placed


def base_of(reports):
    base = {}
    for report in reports:
        base = joined(base, unpacked(report[1]))
    return base


def places_of(reports):
    return tuple(max([report[3] for report in reports], key=len, default=()))


def calls_beyond(base, reports):
    calls = {}
    for report in reports:
        for told in report[2]:
            call = call_of(told)
            if call.name() not in calls and not covers_name(base, call.name()):
                calls[call.name()] = call
    return list(calls.values())


def first_plan(me, hands, reports, wishes):
    base = base_of(reports)
    row = placed(base, calls_beyond(base, reports), places_of(reports))[0]
    on = set_of([report[0] for report in reports])
    staying = set_of([report[0] for report in reports if not report[4]])
    new = wishes & ~hands
    # The hand me stays even if it wants to leave, so that no plan leaves a list without hands.
    return (on, staying | bit_of(me) | new, new, tuple([call.told() for call in row]))
