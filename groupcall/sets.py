"""Sets of hands: whole numbers in which hand h is the bit worth 1 << h."""

LAST_HAND = 62


def is_whole(value):
    # True and False are ints to Python, but no whole numbers here.
    return isinstance(value, int) and not isinstance(value, bool)


def is_hand(value):
    return is_whole(value) and 0 <= value <= LAST_HAND


def is_set(value):
    return is_whole(value) and 0 <= value < 1 << (LAST_HAND + 1)


def rise(hands):
    # Equal lists mean rising hands, each once.
    return hands == sorted(set(hands))


def bit_of(hand):
    # A number below 0 is no hand, but nothing is refused for it: it is in no set.
    return 1 << hand if hand >= 0 else 0


def has(hands, hand):
    return (hands & bit_of(hand)) != 0


def hands_of(hands):
    return [hand for hand in range(hands.bit_length()) if has(hands, hand)]


def set_of(some):
    hands = 0
    for hand in some:
        hands = hands | bit_of(hand)
    return hands


def many(hands):
    return len(hands_of(hands))


def least(hands):
    return min(hands_of(hands), default=None)


def more_than_half(some, hands):
    return 2 * many(some & hands) > many(hands)
