"""The refusals.

Each one stands straight under GroupError, so that taking one by its name never takes another one.
"""


class GroupError(ValueError):
    pass


class NoHand(GroupError):
    pass


class NoHands(GroupError):
    pass


class NoKind(GroupError):
    pass


class NoWord(GroupError):
    pass


class NoCall(GroupError):
    pass


class NotIn(GroupError):
    pass


class IsIn(GroupError):
    pass


class Stopped(GroupError):
    def __init__(self, ballot):
        self.ballot = ballot


class Held(GroupError):
    def __init__(self, many, room):
        self.many = many
        self.room = room


class NoRow(GroupError):
    pass


class NoLetter(GroupError):
    pass
