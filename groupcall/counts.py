"""Counts: dicts from hands to whole numbers, where a hand that is not there has 0."""


def count_of(counts, hand):
    return counts.get(hand, 0)


def hands_among(some):
    hands = []
    for counts in some:
        hands.extend(list(counts))
    return sorted(set(hands))


def covers(one, other):
    return all([count_of(one, hand) >= count_of(other, hand) for hand in hands_among([one, other])])


def joined(one, other):
    return unpacked([(hand, max(count_of(one, hand), count_of(other, hand))) for hand in hands_among([one, other])])


def least_count(some, hand):
    return min([count_of(counts, hand) for counts in some])


def common(some):
    return unpacked([(hand, least_count(some, hand)) for hand in hands_among(some)])


def packed(counts):
    return tuple([(hand, counts[hand]) for hand in sorted(counts) if counts[hand] > 0])


def unpacked(pairs):
    # Pairs handed in may hold noughts, but counts that are told hold none.
    return dict([(hand, count) for hand, count in pairs if count > 0])


def covers_name(counts, name):
    # A name is (number, caller, count); counts belong to one list, so its number is not looked at.
    return count_of(counts, name[1]) >= name[2]
