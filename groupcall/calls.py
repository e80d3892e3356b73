"""Calls: what a hand says to all of its group, and how it is told, shown and read."""

from groupcall.counts import count_of, covers, unpacked
from groupcall.errors import NoCall, NoKind, NoWord
from groupcall.sets import LAST_HAND, is_whole, rise

KINDS = ("own", "heard", "one")
DIGITS = "0123456789"
MOST_FIGURES = 60


def shown_causes(causes):
    return [f"{hand}:{count}" for hand, count in causes]


class Call:
    def __init__(self, number, caller, count, word, causes):
        self.number = number
        self.caller = caller
        self.count = count
        self.word = word
        self.causes = causes

    def name(self):
        return (self.number, self.caller, self.count)

    def rank(self):
        return (self.caller, self.count)

    def kind(self):
        raise NotImplementedError("a call is an OwnCall, a HeardCall or a OneCall")

    def in_turn(self, counts):
        return count_of(counts, self.caller) == self.count - 1

    def free(self, counts):
        return self.in_turn(counts)

    def asks_place(self):
        return False

    def told(self):
        return (self.number, self.caller, self.count, self.kind(), self.word, self.causes)

    def shown(self):
        name = ".".join([str(part) for part in self.name()])
        return " ".join([name, self.kind(), str(self.word)] + shown_causes(self.causes))


class OwnCall(Call):
    def __init__(self, number, caller, count, word, causes):
        # An own call waits for nobody else's calls, so causes handed in are dropped.
        Call.__init__(self, number, caller, count, word, ())

    def kind(self):
        return "own"


class HeardCall(Call):
    def kind(self):
        return "heard"

    def free(self, counts):
        return self.in_turn(counts) and covers(counts, unpacked(self.causes))


class OneCall(HeardCall):
    def kind(self):
        return "one"

    def asks_place(self):
        return True


def is_word(word):
    return is_whole(word) and abs(word) < 10 ** 60


def make_call(number, caller, count, kind, word, causes):
    if kind not in KINDS:
        raise NoKind("a kind is own, heard or one")
    if not is_word(word):
        raise NoWord("a word is a whole number of at most sixty figures")
    if kind == "own":
        return OwnCall(number, caller, count, word, causes)
    if kind == "heard":
        return HeardCall(number, caller, count, word, causes)
    return OneCall(number, caller, count, word, causes)


def call_of(told):
    return make_call(told[0], told[1], told[2], told[3], told[4], told[5])


def read_number(text):
    # Python's int would also read signs, blanks and noughts ahead, which no shown call has.
    plain = text != "" and all([sign in DIGITS for sign in text])
    if not plain or len(text) > MOST_FIGURES or (text[0] == "0" and text != "0"):
        raise NoCall("a number is no plain one of at most sixty figures")
    return int(text)


def read_hand(text):
    hand = read_number(text)
    if hand > LAST_HAND:
        raise NoCall(f"the hand {hand} is beyond {LAST_HAND}")
    return hand


def read_count(text):
    count = read_number(text)
    if count == 0:
        raise NoCall("a count is 0")
    return count


def read_word(text):
    if not text.startswith("-"):
        return read_number(text)
    size = read_number(text[1:])
    if size == 0:
        raise NoCall("0 has no sign")
    return -size


def read_name(text):
    parts = text.split(".")
    if len(parts) != 3:
        raise NoCall("a name is NUMBER.CALLER.COUNT")
    return (read_number(parts[0]), read_hand(parts[1]), read_count(parts[2]))


def read_cause(text):
    parts = text.split(":")
    if len(parts) != 2:
        raise NoCall("a cause is HAND:COUNT")
    return (read_hand(parts[0]), read_count(parts[1]))


def read_causes(texts):
    causes = [read_cause(text) for text in texts]
    if not rise([cause[0] for cause in causes]):
        raise NoCall("the hands of the causes do not rise")
    return tuple(causes)


def read_call(text):
    if not isinstance(text, str):
        raise NoCall("what is read is a text")
    # Split at each single blank, so a blank too many leaves an empty part, which is refused.
    parts = text.split(" ")
    if len(parts) < 3:
        raise NoCall("a call has a name, a kind and a word")
    kind = parts[1]
    if kind not in KINDS:
        raise NoCall("a kind is own, heard or one")
    if kind == "own" and len(parts) > 3:
        raise NoCall("an own call has no causes")
    name = read_name(parts[0])
    return make_call(name[0], name[1], name[2], kind, read_word(parts[2]), read_causes(parts[3:]))
