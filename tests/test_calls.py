import unittest

from groupcall.calls import Call, HeardCall, OneCall, OwnCall, call_of, make_call, read_call
from groupcall.errors import NoCall, NoKind, NoWord

SIXTY = 10 ** 60 - 1
CLASSES = {"own": OwnCall, "heard": HeardCall, "one": OneCall}
CAUSES = ((0, 2), (4, 1), (62, SIXTY))

# Each kind with words below 0, 0, above, and of sixty figures; with no cause, one and several.
CALLS = [
    (number, caller, count, kind, word, causes if kind != "own" else ())
    for number, caller, count in [(1, 0, 3), (0, 62, 1), (7, 12, 1), (10 ** 18, 5, 100), (SIXTY, 1, SIXTY)]
    for kind in CLASSES
    for word in (-25, 0, 1, 905, SIXTY, -SIXTY)
    for causes in ((), ((0, 2),), ((62, 7),), ((0, 2), (4, 1)), CAUSES)
]

BAD_KINDS = ["", "Own", "ONE", "one ", " one", "ready", "ow", "ownheard", None, 0, 1, True, ("own",), ["own"], {}]
BAD_WORDS = [True, False, None, "", "5", "-1", (5,), [5], 10 ** 60, -(10 ** 60), 10 ** 61, 10 ** 5000, -(10 ** 5000)]


class Making(unittest.TestCase):
    def test_the_six_parts_are_its_values_and_what_it_tells(self):
        for parts in CALLS:
            with self.subTest(parts):
                call = make_call(*parts)
                number, caller, count, kind, word, causes = parts
                self.assertEqual(
                    (call.number, call.caller, call.count, call.word, call.causes),
                    (number, caller, count, word, causes),
                )
                self.assertEqual(call.name(), (number, caller, count))
                self.assertEqual(call.kind(), kind)
                self.assertEqual(call.told(), parts)
                self.assertIs(type(call.told()), tuple)
                self.assertIs(type(call.name()), tuple)
                self.assertIs(type(call), CLASSES[kind])

    def test_only_the_kind_one_asks_for_a_place(self):
        for kind in CLASSES:
            self.assertIs(make_call(1, 0, 1, kind, 5, ()).asks_place(), kind == "one")

    def test_made_again_of_the_tuple_it_is_alike(self):
        for parts in CALLS:
            with self.subTest(parts):
                call = call_of(make_call(*parts).told())
                self.assertEqual(call.told(), parts)
                self.assertIs(type(call), CLASSES[parts[3]])

    def test_own_calls_drop_the_causes_that_are_handed_in(self):
        for call in (make_call(1, 0, 3, "own", 5, CAUSES), call_of((1, 0, 3, "own", 5, CAUSES)),
                     OwnCall(1, 0, 3, 5, CAUSES), OwnCall(1, 0, 3, 5, ())):
            self.assertEqual(call.causes, ())
            self.assertEqual(call.told(), (1, 0, 3, "own", 5, ()))
            self.assertEqual(call.shown(), "1.0.3 own 5")

    def test_the_classes_are_made_alike(self):
        for kind, made in CLASSES.items():
            with self.subTest(kind):
                call = made(1, 0, 3, -25, ())
                self.assertEqual((call.number, call.caller, call.count, call.word, call.causes), (1, 0, 3, -25, ()))
                self.assertEqual(call.told(), (1, 0, 3, kind, -25, ()))
        self.assertEqual(HeardCall(1, 0, 3, -25, CAUSES).causes, CAUSES)
        self.assertEqual(OneCall(1, 0, 3, -25, CAUSES).causes, CAUSES)

    def test_the_classes_stand_as_told(self):
        self.assertEqual(OwnCall.__bases__, (Call,))
        self.assertEqual(HeardCall.__bases__, (Call,))
        self.assertEqual(OneCall.__bases__, (HeardCall,))


class MakingRefused(unittest.TestCase):
    def test_a_kind_that_is_none(self):
        for kind in BAD_KINDS:
            with self.subTest(kind), self.assertRaises(NoKind):
                make_call(1, 0, 1, kind, 5, ())

    def test_the_kind_comes_ahead_of_the_word(self):
        for word in BAD_WORDS:
            with self.subTest(word), self.assertRaises(NoKind):
                make_call(1, 0, 1, "two", word, ())

    def test_a_word_that_is_none(self):
        for kind in CLASSES:
            for word in BAD_WORDS:
                with self.subTest(kind=kind, word=str(word)[:70] if not isinstance(word, int) else word.bit_length()):
                    with self.assertRaises(NoWord):
                        make_call(1, 0, 1, kind, word, CAUSES)

    def test_sixty_figures_are_not_refused(self):
        for kind in CLASSES:
            for word in (SIXTY, -SIXTY, 10 ** 59, -(10 ** 59)):
                self.assertEqual(make_call(1, 0, 1, kind, word, ()).word, word)


class Free(unittest.TestCase):
    def check(self, call, counts, answer):
        with self.subTest(told=call.told(), counts=counts):
            kept = dict(counts)
            self.assertIs(call.free(counts), answer)
            self.assertEqual(counts, kept)

    def test_the_callers_count_is_just_one_less(self):
        for kind in CLASSES:
            call = make_call(1, 2, 3, kind, 5, ())
            for counts, answer in [({2: 2}, True), ({2: 3}, False), ({2: 1}, False), ({2: 4}, False), ({}, False),
                                   ({0: 2}, False), ({0: 9, 2: 2}, True)]:
                self.check(call, counts, answer)
            first = make_call(1, 2, 1, kind, 5, ())
            for counts, answer in [({}, True), ({2: 0}, True), ({2: 1}, False), ({0: 1, 1: 7}, True)]:
                self.check(first, counts, answer)

    def test_heard_and_one_wait_for_their_causes(self):
        for kind in ("heard", "one"):
            call = make_call(1, 2, 3, kind, 5, ((0, 2), (2, 2), (4, 1)))
            self.check(call, {0: 2, 2: 2, 4: 1}, True)
            self.check(call, {0: 3, 2: 2, 4: 9, 7: 1}, True)
            self.check(call, {0: 1, 2: 2, 4: 1}, False)
            self.check(call, {0: 2, 2: 2, 4: 0}, False)
            self.check(call, {0: 2, 2: 2}, False)
            self.check(call, {2: 2, 4: 1}, False)
            self.check(call, {0: 2, 2: 3, 4: 1}, False)
            self.check(call, {0: 2, 2: 1, 4: 1}, False)

    def test_an_own_call_looks_at_no_causes(self):
        call = make_call(1, 2, 3, "own", 5, ((0, 2), (4, 1)))
        self.check(call, {2: 2}, True)
        self.check(call, {2: 2, 0: 1}, True)
        self.check(call, {0: 2, 4: 1}, False)
        self.check(OwnCall(1, 2, 1, 5, ((0, 2),)), {}, True)


class ShownAndRead(unittest.TestCase):
    def test_the_documents_examples(self):
        for text, parts in [
            ("1.0.3 heard -25 0:2 4:1", (1, 0, 3, "heard", -25, ((0, 2), (4, 1)))),
            ("7.12.1 own 0", (7, 12, 1, "own", 0, ())),
        ]:
            self.assertEqual(make_call(*parts).shown(), text)
            self.assertEqual(read_call(text).told(), parts)

    def test_other_texts(self):
        for text, parts in [
            ("0.62.1 one 0", (0, 62, 1, "one", 0, ())),
            ("0.0.1 one 7 62:1", (0, 0, 1, "one", 7, ((62, 1),))),
            (f"{SIXTY}.9.{SIXTY} heard -{SIXTY} 0:{SIXTY} 10:10",
             (SIXTY, 9, SIXTY, "heard", -SIXTY, ((0, SIXTY), (10, 10)))),
            (f"10.10.10 own {SIXTY}", (10, 10, 10, "own", SIXTY, ())),
            ("3.1.1 heard 2 1:5", (3, 1, 1, "heard", 2, ((1, 5),))),
        ]:
            with self.subTest(text):
                self.assertEqual(make_call(*parts).shown(), text)
                self.assertEqual(read_call(text).told(), parts)

    def test_each_text_read_gives_the_call_back(self):
        for parts in CALLS:
            with self.subTest(parts):
                text = make_call(*parts).shown()
                call = read_call(text)
                self.assertEqual(call.told(), parts)
                self.assertIs(type(call), CLASSES[parts[3]])
                self.assertEqual(call.shown(), text)

    def test_unlike_calls_are_shown_unlike(self):
        self.assertEqual(len({make_call(*parts).shown() for parts in CALLS}), len(set(CALLS)))


class ReadingRefused(unittest.TestCase):
    def check(self, texts):
        for text in texts:
            with self.subTest(text), self.assertRaises(NoCall):
                read_call(text)

    def test_a_hand_beyond_62(self):
        self.check(["1.63.3 heard -25", "1.100.3 own 5", f"1.{SIXTY}.3 own 5", "1.0.3 heard -25 63:1",
                    "1.0.3 one -25 0:1 64:1", f"1.0.3 one -25 {SIXTY}:1", "1.-1.3 own 5", "1.0.3 one 5 -1:1"])

    def test_a_count_of_0(self):
        self.check(["1.0.0 own 5", "1.0.0 one 5 0:1", "1.0.3 heard 5 0:0", "1.0.3 one 5 0:1 4:0",
                    "1.0.-1 own 5", "1.0.3 one 5 0:-1"])

    def test_causes_with_own(self):
        self.check(["7.12.1 own 0 0:2", "7.12.1 own 0 0:2 4:1", "1.0.3 own 5 0:0", "1.0.3 own 5 x"])

    def test_hands_not_rising(self):
        self.check(["1.0.3 heard -25 4:1 0:2", "1.0.3 heard -25 0:2 0:2", "1.0.3 one -25 0:2 0:3",
                    "1.0.3 one 5 0:1 10:1 9:1", "1.0.3 one 5 10:1 9:1", "1.0.3 one 5 0:1 4:1 4:2"])

    def test_blanks(self):
        good = "1.0.3 heard -25 0:2 4:1"
        for at in [at for at, sign in enumerate(good) if sign == " "]:
            self.check([good[:at] + " " + good[at:], good[:at] + "\t" + good[at + 1:], good[:at] + good[at + 1:],
                        good[:at] + "\n" + good[at + 1:]])
        for at in range(len(good) + 1):
            self.check([good[:at] + "  " + good[at:], good[:at] + "\n" + good[at:]])
        self.check([" " + good, good + " ", good + "\n", "\n" + good, good + "\t", "7.12.1 own 0 ", " 7.12.1 own 0",
                    "1. 0.3 own 5", "1.0.3 heard - 25", "1.0.3 heard 5 0: 2", "1.0.3 heard 5 0 :2"])

    def test_noughts_ahead(self):
        self.check(["01.0.3 own 5", "1.00.3 own 5", "1.04.3 own 5", "1.0.03 own 5", "1.0.3 own 05", "1.0.3 own -05",
                    "1.0.3 own 00", "1.0.3 heard 5 00:2", "1.0.3 heard 5 04:1", "1.0.3 heard 5 0:02", "00.0.1 own 5"])

    def test_signs(self):
        self.check(["1.0.3 own +5", "1.0.3 own -0", "1.0.3 own +0", "1.0.3 own --5", "1.0.3 own -", "+1.0.3 own 5",
                    "-1.0.3 own 5", "1.+0.3 own 5", "1.0.+3 own 5", "1.0.3 one 5 +0:1", "1.0.3 one 5 0:+1",
                    "1.-0.3 own 5", "-0.0.3 own 5", "1.0.3 own 5-", "1.0.3 own 1_0", "1_0.0.3 own 1", "1.0.3 own 5.0",
                    "1.0.3 own 0x5", "1.0.3 own x", "1.0.3 own 1e3", "x.0.3 own 5", "1.x.3 own 5", "1.0.x own 5"])

    def test_kinds(self):
        self.check([f"1.0.3 {kind} 5" for kind in ("", "Own", "ONE", "ready", "own,", "owned", "o", "5", "heard-one")])

    def test_parts_left_out_or_too_many(self):
        self.check(["", " ", "  ", "1.0.3", "1.0.3 own", "own 5", "1.0.3 5", "1.0 own 5", "1 own 5", "1.0.3.4 own 5",
                    ".0.3 own 5", "1..3 own 5", "1.0. own 5", ".. own 5", "1.0.3. own 5", "1.0.3 own 5 6",
                    "1.0.3 heard 5 6", "1.0.3 one 5 0:2:1", "1.0.3 one 5 0:", "1.0.3 one 5 :2", "1.0.3 one 5 :",
                    "1.0.3 one 5 0:2,4:1", "1:0:3 own 5", "1.0.3 one 5 0.2", "1.0.3 one 5 -"])

    def test_more_than_sixty_figures(self):
        for figures in ("1" + "0" * 60, "9" * 61, "1" * 5000):
            self.check([f"{figures}.0.3 own 5", f"1.{figures}.3 own 5", f"1.0.{figures} own 5", f"1.0.3 own {figures}",
                        f"1.0.3 own -{figures}", f"1.0.3 one {figures}", f"1.0.3 heard 5 0:{figures}",
                        f"1.0.3 heard 5 {figures}:1", f"1.0.3 one 5 0:1 4:{figures}"])

    def test_what_is_no_text(self):
        self.check([None, 5, 0, True, ("1.0.3 own 5",), ["1.0.3 own 5"], (1, 0, 3, "own", 5, ()), {}, b"1.0.3 own 5"])


if __name__ == "__main__":
    unittest.main()
