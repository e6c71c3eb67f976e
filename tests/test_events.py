"""The calls event, events, made and journal."""

from tests.helper import (
    CallsCase, FAR, accepts, arrive, arrives, ask, at, begin, double, event, events, fuse, garble, give_up, journal,
    lose, made, settled_rounds, wipe,
)

# Numbers 1 to 4 of three sources are sent as 1 to 12. 1 is told whole; 2 has source 1 alone, 3 is whole.
HEARD = [begin(3)] + accepts(3, 1, 5) + arrives(1, 5) + arrives(7, 10)
# 2 is given up, 3 is due behind it, 4 isn't settled.
TOLD = HEARD + [ask()] * 3 + [give_up()]

KEPT_OF_ONE = [0, 1, 1, 101, 0, 1, 2, 102, 0, 1, 3, 103]
KEPT_BEHIND_ONE = [0, 2, 1, 201, 0, 3, 1, 301, 0, 3, 2, 302, 0, 3, 3, 303]

ALL_SIXTY = settled_rounds(2, 8) + accepts(2, 57, 61) + arrives(169, 177)


class Event(CallsCase):
    def test_whole_lacking_and_not_settled(self):
        self.check_all(TOLD, [
            (event(1), [1, 101, 102, 103]), (event(2), [2, 201, -1, -1]), (event(3), [1, 301, 302, 303]),
            (event(4), [0]), (event(5), [0]), (event(60), [0]),
        ])

    def test_whole_and_not_told_is_not_settled(self):
        self.check_all(HEARD, [(event(1), [1, 101, 102, 103]), (event(2), [0]), (event(3), [0])])
        kept = [begin(2), at(1, [1, 2]), arrive(1), fuse(1), arrive(2)]
        self.check_all(kept, [(event(1), [0])])
        self.check_all(kept + [ask()], [(event(1), [1, 1, 2])])

    def test_none_accepted(self):
        self.check_all([begin(2)], [(event(1), [0]), (event(60), [0])])

    def test_words_at_both_ends_of_their_range(self):
        calls = [begin(2), at(1, [0, 9999]), at(2, [9999, 0])]
        self.check_all(calls + arrives(1, 5), [(event(1), [1, 0, 9999]), (event(2), [1, 9999, 0])])
        lacking = [arrive(1)] + [ask()] * 3 + [give_up()]
        self.check_all(calls + lacking, [(event(1), [2, 0, -1])])

    def test_each_source_may_lack(self):
        for n in range(2, 7):
            for z in range(1, n + 1):
                calls = [begin(n)] + accepts(n, 1, 2) + [lose(z)] + [arrive(w) for w in range(1, n + 1) if w != z]
                row = [-1 if y == z else 100 + y for y in range(1, n + 1)]
                self.check_all(calls, [(event(1), [0])])
                self.check_all(calls + [ask()] * 3 + [give_up()], [(event(1), [2] + row)])

    def test_all_sources_lack(self):
        for n in (2, 6):
            calls = [begin(n)] + accepts(n, 1, 3) + [arrive(n + 1)] + [ask()] * 3 + [give_up()]
            self.check_all(calls, [(event(1), [2] + [-1] * n), (event(2), [0])])

    def test_a_fragment_that_comes_behind_the_telling(self):
        # 5 and 6 are of number 2, of sources 2 and 3.
        self.check_all(TOLD + [arrive(5), arrive(6)], [(event(2), [2, 201, -1, -1])])

    def test_a_wipe_does_not_change_what_is_told(self):
        self.check_all(TOLD + [wipe(1), wipe(2), wipe(3)], [(event(1), [1, 101, 102, 103])])

    def test_its_range(self):
        self.check_all(ALL_SIXTY, [(event(1), [1, 101, 102]), (event(60), [1, 6001, 6002]), (event(61), [-1])])
        for a in (-FAR, -1, 0, 61, 62, FAR):
            self.check_refused(TOLD, event(a), [-1], 3)

    def test_counters_came_round(self):
        self.check_all(ALL_SIXTY, [(event(a), [1, 100 * a + 1, 100 * a + 2]) for a in range(1, 61)])


class Events(CallsCase):
    def test_none(self):
        self.check_all([begin(2)], [(events(), [0])])
        self.check_all([begin(2), at(1, [1, 2]), arrive(1)], [(events(), [0])])

    def test_whole_and_lacking(self):
        self.check_all(HEARD, [(events(), [1, 0])])
        self.check_all(TOLD, [(events(), [3, 0, 2, 2, 3, 0])])

    def test_the_sources_rise_however_words_came(self):
        calls = [begin(6)] + accepts(6, 1, 2) + [arrive(5), arrive(2), arrive(4)] + [ask()] * 3 + [give_up()]
        self.check_all(calls, [(events(), [1, 3, 1, 3, 6])])

    def test_all_sources_lack(self):
        calls = [begin(4)] + accepts(4, 1, 3) + [arrive(5)] + [ask()] * 3 + [give_up()]
        self.check_all(calls, [(events(), [1, 4, 1, 2, 3, 4])])

    def test_sixty(self):
        self.check_all(ALL_SIXTY, [(events(), [60] + [0] * 60)])


class Made(CallsCase):
    def test_none(self):
        self.check_all([begin(2)], [(made(), [0])])
        self.check_all([begin(2), at(1, [1, 2]), arrive(1)], [(made(), [0])])

    def test_only_lacking_ones(self):
        calls = [begin(2), at(1, [1, 2]), arrive(1)] + [ask()] * 3 + [give_up()]
        self.check_all(calls, [(made(), [0]), (events(), [1, 1, 2])])

    def test_whole_and_lacking(self):
        self.check_all(HEARD, [(made(), [1, 1])])
        self.check_all(TOLD, [(made(), [2, 1, 3])])

    def test_a_late_fragment_makes_nothing_whole(self):
        self.check_all(TOLD + [arrive(5), arrive(6)], [(made(), [2, 1, 3])])

    def test_sixty(self):
        self.check_all(ALL_SIXTY, [(made(), [60] + list(range(1, 61)))])


class Journal(CallsCase):
    def test_ahead_of_begin(self):
        self.check((journal(), [0]), (journal(), [0]), (begin(2), [2]), (journal(), [0]))

    def test_the_writings_in_their_order(self):
        self.check_all(HEARD, [(journal(), [8] + KEPT_OF_ONE + [1, 0] + KEPT_BEHIND_ONE)])
        self.check_all(TOLD, [(journal(), [10] + KEPT_OF_ONE + [1, 0] + KEPT_BEHIND_ONE + [1, 2, 2, 3, 1, 0])])

    def test_the_order_in_which_words_came(self):
        calls = [begin(2)] + accepts(2, 1, 3) + [arrive(4), arrive(1), arrive(3), arrive(2)]
        self.check_all(calls, [
            (journal(), [6, 0, 2, 2, 202, 0, 1, 1, 101, 0, 2, 1, 201, 0, 1, 2, 102, 1, 0, 1, 0]),
        ])

    def test_what_is_not_written(self):
        # A twin, a garbled one, a lost one, questions, credits, a wipe, and asking.
        calls = [begin(2)] + accepts(2, 1, 3) + [double(1), garble(2), lose(3)] + arrives(1, 3) + [arrive(5)]
        calls += [ask(), arrive(6), wipe(1), arrive(7)]
        self.check_all(calls, [(journal(), [1, 0, 1, 1, 101])])

    def test_a_word_0(self):
        calls = [begin(2), at(1, [0, 9999])] + arrives(1, 3)
        self.check_all(calls, [(journal(), [3, 0, 1, 1, 0, 0, 1, 2, 9999, 1, 0])])

    def test_power_between_two_writings(self):
        # 1 lacks the fragment 2; 2 is whole. The fragment makes three writings and one credit.
        calls = [begin(2)] + accepts(2, 1, 3) + [arrive(1), arrive(3), arrive(4)]
        kept = [0, 1, 1, 101, 0, 2, 1, 201, 0, 2, 2, 202]
        writings = [[0, 1, 2, 102], [1, 0], [1, 0]]
        for k in range(4):
            done = [number for writing in writings[:k] for number in writing]
            self.check_all(calls + [fuse(k), arrive(2)], [(journal(), [3 + k] + kept + done)])
        for k in range(1, 4):
            # What lacks of it is written by the next ask.
            self.check_all(calls + [fuse(k), arrive(2), ask()], [
                (journal(), [6] + kept + [0, 1, 2, 102, 1, 0, 1, 0]), (made(), [2, 1, 2]), (events(), [2, 0, 0]),
            ])

    def test_power_between_the_writings_of_a_give_up(self):
        calls = HEARD + [ask()] * 3
        for k, done in enumerate([[], [1, 2, 2, 3], [1, 2, 2, 3, 1, 0]]):
            self.check_all(calls + [fuse(k), give_up()], [
                (journal(), [8 + k] + KEPT_OF_ONE + [1, 0] + KEPT_BEHIND_ONE + done),
                (made(), [[1, 1], [1, 1], [2, 1, 3]][k]),
                (events(), [[1, 0], [2, 0, 2, 2, 3], [3, 0, 2, 2, 3, 0]][k]),
                (event(2), [0] if k == 0 else [2, 201, -1, -1]),
                (event(3), [1, 301, 302, 303] if k == 2 else [0]),
            ])
