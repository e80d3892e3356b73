"""A book folded: a state made of its rows, one by one."""

from groupcall.change import own_copy


def folded(book, begin, step):
    # A step may change the state that it is given, but the begin is the asker's and stays as it is.
    state = own_copy(begin)
    for row in book:
        state = step(state, row)
    return state
