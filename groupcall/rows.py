"""Rows: how the rows that a hall is told are read, and how its answers are written."""

from groupcall.calls import read_count, read_number, read_word, shown_causes
from groupcall.errors import NoCall, NoHand, NoRow
from groupcall.sets import hands_of, is_hand, rise, set_of

FORMS = (
    ("call", "H", "KIND", "WORD"),
    ("post", "H"),
    ("post", "H", "SKIP", "MANY"),
    ("hear", "H", "LETTER"),
    ("suspect", "H", "SET"),
    ("renew", "H"),
    ("renew", "H", "MORE"),
    ("leave", "H"),
    ("come", "H"),
    ("round", "SET"),
    ("show", "H"),
    ("log", "H"),
    ("save", "H"),
    ("judge",),
)
NUMBERS = ("H", "SKIP", "MANY", "LETTER")


def words_of(row):
    if not isinstance(row, str):
        raise NoRow("a row is a text")
    words = row.split(" ")
    if "" in words:
        raise NoRow("the words of a row are parted by single blanks")
    return words


def form_of(words):
    for form in FORMS:
        if form[0] == words[0] and len(form) == len(words):
            return form
    raise NoRow("the row is none of those listed")


def read_hands(text):
    if text == "-":
        return []
    hands = [read_number(part) for part in text.split(",")]
    if not rise(hands):
        raise NoRow("the hands of a set do not rise")
    return hands


def read_part(place, text):
    if place in NUMBERS:
        return read_number(text)
    if place == "MORE":
        return read_count(text)
    if place == "WORD":
        return read_word(text)
    if place == "SET":
        return read_hands(text)
    # The row's own first word, and a kind, which the hand refuses in its turn.
    return text


def read_parts(form, words):
    try:
        return [read_part(place, text) for place, text in zip(form, words)]
    except NoCall:
        # Numbers are written as in calls, and read alike; but what is refused here is a row.
        raise NoRow("a number of the row is none") from None


def check_hands(hands):
    if not all([is_hand(hand) for hand in hands]):
        raise NoHand("a hand is a whole number from 0 to 62")


def checked_part(place, part):
    if place == "H":
        check_hands([part])
    if place != "SET":
        return part
    check_hands(part)
    return set_of(part)


def read_row(row):
    words = words_of(row)
    form = form_of(words)
    # All parts are read ahead of the first check: what is no row is refused ahead of what is no hand.
    parts = read_parts(form, words)
    return tuple([checked_part(place, part) for place, part in zip(form, parts)])


def words_told(parts):
    return " ".join([str(part) for part in parts])


def set_told(hands):
    return ",".join([str(hand) for hand in hands_of(hands)]) if hands != 0 else "-"


def causes_told(causes):
    return ",".join(shown_causes(causes)) if causes != () else "-"


def event_told(event):
    if event[0] == "list":
        return words_told(event[:2] + tuple([set_told(hands) for hands in event[2:]]))
    if event[0] == "take":
        return words_told(("take",) + event[1] + (event[2], event[3], causes_told(event[4]), event[5]))
    return words_told(event)


def events_told(events):
    return "; ".join([event_told(event) for event in events]) if events != [] else "none"
