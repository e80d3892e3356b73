import unittest

from groupcall.fold import folded
from groupcall.hands import Hand

ROWS = (
    (1, 2, 1, "one", -7),
    (1, 0, 1, "own", 5),
    (2, 0, 1, "heard", 10 ** 60 - 1),
)


def never(state, row):
    raise AssertionError("a book of no rows asks for no step")


def with_word(state, row):
    return state + row[4]


def with_row(state, row):
    return state + (row,)


class Folding(unittest.TestCase):
    def test_of_no_rows_the_begin(self):
        for begin in (0, -3, "", "text", (), (1, (2,)), [], [1, [2]], {}, {1: {2: 3}}, None, True, False):
            for book in ((), []):
                told = folded(book, begin, never)
                self.assertEqual(told, begin)
                self.assertIs(type(told), type(begin))

    def test_a_begin_of_any_kind_is_handed_on(self):
        begin = object()
        self.assertIs(folded((), begin, never), begin)
        self.assertEqual(folded(ROWS[:1], begin, lambda state, row: (state, row)), (begin, ROWS[0]))

    def test_one_row(self):
        self.assertEqual(folded(ROWS[:1], 10, with_word), 3)

    def test_rows_as_they_stand(self):
        for book in (ROWS, ROWS[::-1], (ROWS[1], ROWS[2], ROWS[0]), ROWS + ROWS, list(ROWS)):
            self.assertEqual(folded(book, (), with_row), tuple(book))

    def test_the_step_is_called_once_for_each_row_with_the_state_so_far(self):
        asked = []

        def step(state, row):
            asked.append((state, row))
            return f"state {len(asked)}"

        self.assertEqual(folded(ROWS, "begin", step), "state 3")
        self.assertEqual(asked, [("begin", ROWS[0]), ("state 1", ROWS[1]), ("state 2", ROWS[2])])

    def test_states_of_several_kinds(self):
        self.assertEqual(folded(ROWS, 0, with_word), 10 ** 60 - 3)
        self.assertEqual(folded(ROWS, "", lambda state, row: state + row[3]), "oneownheard")
        self.assertEqual(folded(ROWS, [], lambda state, row: state + [row[1]]), [2, 0, 0])
        self.assertEqual(folded(ROWS, {}, lambda state, row: {**state, row[1]: row[4]}), {2: -7, 0: 10 ** 60 - 1})
        self.assertEqual(folded(ROWS, None, lambda state, row: row), ROWS[2])
        self.assertIs(folded(ROWS, True, lambda state, row: not state), False)
        self.assertIsNone(folded(ROWS, 1, lambda state, row: None))

    def test_a_state_of_none_or_nothing_goes_on_too(self):
        asked = []

        def step(state, row):
            asked.append(state)
            return (None, 0, ())[len(asked) - 1]

        self.assertEqual(folded(ROWS, "begin", step), ())
        self.assertEqual(asked, ["begin", None, 0])

    def test_a_step_that_changes_its_state_leaves_the_begin(self):
        def into_list(state, row):
            state[0].append(row)
            return state

        def into_dict(state, row):
            state["rows"].append(row)
            state["many"] = len(state["rows"])
            return state

        begin = [[]]
        self.assertEqual(folded(ROWS, begin, into_list), [list(ROWS)])
        self.assertEqual(begin, [[]])
        begin = ([], 1)
        self.assertEqual(folded(ROWS, begin, into_list), (list(ROWS), 1))
        self.assertEqual(begin, ([], 1))
        begin = {"rows": [], "many": 0}
        self.assertEqual(folded(ROWS, begin, into_dict), {"rows": list(ROWS), "many": 3})
        self.assertEqual(begin, {"rows": [], "many": 0})

    def test_what_is_told_is_the_askers_own(self):
        for begin in ([1, [2]], {1: [2]}):
            told = folded((), begin, never)
            told[1].append(3)
            self.assertEqual(begin[1], [2])
            told = folded((), begin, never)
            begin[1].append(4)
            self.assertEqual(told[1], [2])

    def test_the_book_stays(self):
        book = list(ROWS)
        folded(book, 0, with_word)
        self.assertEqual(book, list(ROWS))

    def test_a_thousand_rows(self):
        book = tuple((1, 0, count, "own", count) for count in range(1, 1001))
        self.assertEqual(folded(book, 0, with_word), 500500)

    def test_the_book_of_a_hand(self):
        hand = Hand(4, 1 << 4)
        for word in (5, 7, -2):
            hand.call("one", word)
        self.assertEqual(folded(hand.book(), 0, with_word), 0)
        hand.renew()
        book = hand.book()
        self.assertEqual(folded(book, 0, with_word), 10)
        self.assertEqual(folded(book, (), with_row), book)
        self.assertEqual(hand.book(), book)

    def test_what_a_step_raises_goes_through(self):
        def step(state, row):
            raise KeyError(row)

        with self.assertRaises(KeyError):
            folded(ROWS, 0, step)


if __name__ == "__main__":
    unittest.main()
