"""The hall: a group's hands and the letters kept of them, told by rows of text."""

from groupcall.errors import NoLetter
from groupcall.hands import Hand
from groupcall.judge import fault
from groupcall.rows import events_told, read_row, set_told, words_told
from groupcall.saved import read_back, saved
from groupcall.sets import LAST_HAND, hands_of


def answer_call(hall, parts):
    return words_told(hall.group[parts[0]].call(parts[1], parts[2]))


def answer_post(hall, parts):
    hand = hall.group[parts[0]]
    hall.letters.append(hand.letter() if len(parts) == 1 else hand.letter(parts[1], parts[2]))
    return str(len(hall.letters))


def letter_kept(hall, number):
    if not 1 <= number <= len(hall.letters):
        raise NoLetter(f"no letter is kept by the number {number}")
    return hall.letters[number - 1]


def answer_hear(hall, parts):
    return events_told(hall.group[parts[0]].hear(letter_kept(hall, parts[1])))


def answer_suspect(hall, parts):
    return events_told(hall.group[parts[0]].suspect(parts[1]))


def answer_renew(hall, parts):
    hand = hall.group[parts[0]]
    return events_told(hand.renew() if len(parts) == 1 else hand.renew(parts[1]))


def answer_leave(hall, parts):
    hall.group[parts[0]].leave()
    return "ok"


def answer_come(hall, parts):
    hall.group[parts[0]].come()
    return "ok"


def answer_round(hall, parts):
    hands = [hall.group[hand] for hand in hands_of(parts[0])]
    for teller in hands:
        # A hand is not changed by what others hear, and a letter of its own does nothing to it.
        letter = teller.letter()
        for hearer in hands:
            hearer.hear(letter)
    return "ok"


def answer_show(hall, parts):
    standing = hall.group[parts[0]].standing()
    return "away" if standing is None else words_told(("in", standing[0], set_told(standing[1])))


def answer_log(hall, parts):
    return events_told(hall.group[parts[0]].events())


def answer_save(hall, parts):
    hall.group[parts[0]] = read_back(saved(hall.group[parts[0]]))
    return "ok"


def answer_judge(hall, parts):
    # All hands may be gone over: one that the first list lacks and no row named has no events to be at fault in.
    found = fault([(hand.me, hand.events()) for hand in hall.group])
    return "none" if found is None else words_told(found)


ANSWERS = {
    "call": answer_call,
    "post": answer_post,
    "hear": answer_hear,
    "suspect": answer_suspect,
    "renew": answer_renew,
    "leave": answer_leave,
    "come": answer_come,
    "round": answer_round,
    "show": answer_show,
    "log": answer_log,
    "save": answer_save,
    "judge": answer_judge,
}


class Hall:
    def __init__(self, hands, number=1, room=8):
        self.group = [Hand(hand, hands, number, room) for hand in range(LAST_HAND + 1)]
        self.letters = []

    def say(self, row):
        parts = read_row(row)
        answer = ANSWERS[parts[0]]
        return answer(self, parts[1:])
