"""Saved hands: a hand as a tuple of plain values, and a hand read back from it.

A saved hand is a tuple of pairs (what, value); of its page and of its change such tuples are saved within it.
"""

from groupcall.calls import call_of
from groupcall.change import Change
from groupcall.counts import packed, unpacked
from groupcall.hands import Hand
from groupcall.page import Page
from groupcall.sets import bit_of


def told_calls_of(calls):
    return tuple([call.told() for call in calls])


def saved_page(page):
    return (
        ("number", page.number),
        ("hands", page.hands),
        ("made", page.made),
        ("done", packed(page.done)),
        ("took", told_calls_of(page.took)),
        ("keeps", told_calls_of(page.kept_calls())),
        ("order", tuple(page.order)),
        ("taken_by", page.taken_by.listed()),
        ("able_by", page.able_by.listed()),
    )


def saved_change(change):
    return (
        ("hands", change.hands),
        ("ballot", change.ballot),
        ("yes", change.yes),
        ("votes", change.votes),
        ("reports", tuple([(hand, change.reports[hand]) for hand in sorted(change.reports)])),
        ("agreed", change.agreed),
    )


def saved(hand):
    return (
        ("me", hand.me),
        ("room", hand.room),
        ("newest", hand.newest),
        ("page", None if hand.page is None else saved_page(hand.page)),
        ("change", None if hand.change is None else saved_change(hand.change)),
        ("came_by", hand.came_by),
        ("went_by", hand.went_by),
        ("past", hand.past),
        ("log", tuple(hand.log)),
        ("lost", tuple(hand.lost)),
        ("doubts", hand.doubts),
        ("noted", hand.noted),
        ("wants_out", hand.wants_out),
        ("wants_in", hand.wants_in),
    )


def page_back(me, room, value):
    kept = dict(value)
    page = Page(me, kept["number"], kept["hands"], room)
    page.made = kept["made"]
    page.done = unpacked(kept["done"])
    page.took = [call_of(told) for told in kept["took"]]
    for told in kept["keeps"]:
        page.keep(call_of(told))
    page.order = list(kept["order"])
    page.taken_by.merge(kept["taken_by"])
    page.able_by.merge(kept["able_by"])
    return page


def change_back(me, value):
    kept = dict(value)
    change = Change(me, kept["hands"])
    change.ballot = kept["ballot"]
    change.yes = kept["yes"]
    change.votes = kept["votes"]
    change.reports = dict(kept["reports"])
    change.agreed = kept["agreed"]
    return change


def read_back(value):
    kept = dict(value)
    me = kept["me"]
    room = kept["room"]
    # No first list is saved, as a hand needs none behind its making: what comes of this one gives way to what is saved.
    hand = Hand(me, bit_of(me), kept["newest"], room)
    hand.page = None if kept["page"] is None else page_back(me, room, kept["page"])
    hand.change = None if kept["change"] is None else change_back(me, kept["change"])
    hand.came_by = kept["came_by"]
    hand.went_by = kept["went_by"]
    hand.past = kept["past"]
    hand.log = list(kept["log"])
    hand.lost = list(kept["lost"])
    hand.doubts = kept["doubts"]
    hand.noted = kept["noted"]
    hand.wants_out = kept["wants_out"]
    hand.wants_in = kept["wants_in"]
    return hand
