"""The fuse at each place between two writings or sendings of a call."""

from tests.helper import (
    CallsCase, accepts, arrive, arrives, ask, at, begin, double, fuse, garble, give_up, house_behind, is_under_way,
    lose, words_under_way,
)

# Numbers 1 to 4 of two sources are sent as 1 to 8, and 9 is a twin of 2. Kept are
# 1 to 3, but for the fragment 2 of number 1.
KEPT_BUT_ONE = [begin(2)] + accepts(2, 1, 5) + [double(2), arrive(1)] + arrives(3, 7)
KEEPINGS = [(0, 1, 1, 101), (0, 2, 1, 201), (0, 2, 2, 202), (0, 3, 1, 301), (0, 3, 2, 302)]


class InAFragment(CallsCase):
    """It writes it as kept, writes 1, 2 and 3 as told, and sends the credit 10: five in all."""

    writings = [(0, 1, 2, 102), (1, ()), (1, ()), (1, ())]

    def test_how_much_is_done(self):
        for k in range(5):
            calls = KEPT_BUT_ONE + [fuse(k), arrive(2)]
            self.check_last(calls, [-20])
            self.assertEqual(house_behind(calls).builder.journal, KEEPINGS + self.writings[:k])
            self.assertEqual(words_under_way(calls, 16), [(7, 0), (8, 0), (9, 0)])

    def test_what_is_left_to_tell(self):
        # Another fragment that is kept shows how many are due still.
        for k, due in enumerate([0, 3, 2, 1, 0]):
            self.check_last(KEPT_BUT_ONE + [fuse(k), arrive(2), arrive(7)], [0, 2, 4, due])

    def test_whether_it_is_kept(self):
        self.check_last(KEPT_BUT_ONE + [fuse(0), arrive(2), arrive(9)], [0, 2, 1, 3])
        for k in range(1, 5):
            self.check_last(KEPT_BUT_ONE + [fuse(k), arrive(2), arrive(9)], [0, 1, 1, 0])

    def test_the_word_that_came_is_gone(self):
        for k in range(5):
            self.check_last(KEPT_BUT_ONE + [fuse(k), arrive(2), arrive(2)], [-5])

    def test_the_fuse_lasts(self):
        for k in (-1, 5, 6, 7, 8, 9):
            calls = KEPT_BUT_ONE + [fuse(k), arrive(2)]
            self.check_last(calls, [0, 2, 1, 3])
            self.assertEqual(house_behind(calls).builder.journal, KEEPINGS + self.writings)
            self.assertEqual(words_under_way(calls, 16), [(7, 0), (8, 0), (9, 0), (10, 2)])
            self.assertEqual(house_behind(calls).builder.fuse, max(k - 5, -1))

    def test_what_is_left_of_the_fuse_is_less(self):
        # Then ask wants a credit, 11, and two questions, 12 and 13.
        for k in (5, 6, 7):
            calls = KEPT_BUT_ONE + [fuse(k), arrive(2), ask()]
            self.check_last(calls, [-20])
            self.assertEqual(words_under_way(calls, 16)[4:], [(11, 2), (12, 1)][:k - 5])
        for k in (-1, 8, 9):
            self.check_last(KEPT_BUT_ONE + [fuse(k), arrive(2), ask()], [2])
        self.check_last(KEPT_BUT_ONE + [fuse(8), arrive(2), ask(), ask()], [-20])
        self.check_last(KEPT_BUT_ONE + [fuse(9), arrive(2), ask(), ask()], [-20])

    def test_no_fuse_any_more_behind_it(self):
        for k in range(5):
            calls = KEPT_BUT_ONE + [fuse(k), arrive(2), lose(9), ask(), ask(), ask(), ask(), ask()]
            self.check_last(calls, [1 if k == 0 else 2])
            self.assertEqual(house_behind(calls).builder.fuse, -1)

    def test_a_fragment_that_is_only_kept(self):
        calls = [begin(2), at(1, [1, 2]), fuse(1), arrive(1)]
        self.check_last(calls, [0, 2, 1, 0])
        self.check_last(calls + [arrive(2)], [-20])
        self.check_last([begin(2), at(1, [1, 2]), fuse(0), arrive(1)], [-20])


class InWordsThatMakeTheBuilderDoNothing(CallsCase):
    def test_a_fragment_that_is_there(self):
        calls = [begin(2), at(1, [1, 2]), double(1), double(2), arrive(1), fuse(0)]
        self.check_last(calls + [arrive(3)], [0, 1, 1, 0])
        self.check_last(calls + [arrive(3), ask()], [-20])
        settled = [begin(2), at(1, [1, 2]), double(1), arrive(1), arrive(2), fuse(0)]
        self.check_last(settled + [arrive(3)], [0, 1, 1, 0])
        self.check_last(settled + [arrive(3), ask()], [-20])

    def test_a_garbled_one(self):
        calls = [begin(2), at(1, [1, 2]), garble(1), fuse(0), arrive(1)]
        self.check_last(calls, [0, 0, 0, 0])
        self.check_last(calls + [arrive(2)], [-20])

    def test_questions_and_credits(self):
        # What a source sends and what the acceptor takes is not the builder's.
        calls = [begin(2), at(1, [1, 2]), arrive(1), arrive(2), at(2, [3, 4]), ask(), fuse(0)]
        # 3 is the credit, 4 and 5 are fragments of 2, 6 is a credit, 7 and 8 are questions.
        self.check_last(calls + [arrive(7)], [1, 2, 2, 0])
        self.check_last(calls + [arrive(3)], [2, 2, 1, 0])
        self.check_last(calls + [arrive(7), arrive(3), arrive(6), ask()], [-20])

    def test_crossings(self):
        calls = [begin(2), fuse(0), at(1, [1, 2]), double(1), lose(2), garble(1)]
        self.check_last(calls, [0])
        self.check_last(calls + [arrive(3)], [-20])


class InAnAsk(CallsCase):
    """With 1 and 2 due: two writings, the credit 7, the questions 8 and 9 for number 3: five in all."""

    due = [begin(2)] + accepts(2, 1, 4) + arrives(2, 5) + [fuse(1), arrive(1)]
    sendings = [(7, 2), (8, 1), (9, 1)]

    def test_how_much_is_done(self):
        for k in range(5):
            calls = self.due + [fuse(k), ask()]
            self.check_last(calls, [-20])
            self.assertEqual(house_behind(calls).builder.told, [(), ()][:k])
            self.assertEqual(words_under_way(calls, 16), [(5, 0), (6, 0)] + self.sendings[:max(k - 2, 0)])

    def test_what_is_left_to_tell(self):
        for k, left in enumerate([2, 1, 0, 0, 0]):
            self.check_last(self.due + [fuse(k), ask(), arrive(5)], [0, 2, 3, left])

    def test_the_fuse_lasts(self):
        for k in (-1, 5, 6, 7, 8, 9):
            calls = self.due + [fuse(k), ask()]
            self.check_last(calls, [2])
            self.assertEqual(house_behind(calls).builder.told, [(), ()])
            self.assertEqual(words_under_way(calls, 16), [(5, 0), (6, 0)] + self.sendings)
            self.assertEqual(house_behind(calls).builder.fuse, max(k - 5, -1))

    def test_the_fuse_is_less_by_it(self):
        for k in (5, 6, 7):
            self.check_last(self.due + [fuse(k), ask(), ask()], [-20])
        for k in (-1, 8, 9):
            self.check_last(self.due + [fuse(k), ask(), ask()], [2])

    def test_no_fuse_any_more_behind_it(self):
        for k in range(5):
            self.check_last(self.due + [fuse(k), ask()] + [ask()] * 5, [2])

    def test_it_does_not_count(self):
        # Number 3 is heard of; telling begins the count anew, and only three whole asks count.
        heard = [begin(2)] + accepts(2, 1, 4) + arrives(2, 6) + [fuse(1), arrive(1)]
        for k in range(4):
            calls = heard + [fuse(k), ask(), ask(), ask()]
            self.check_last(calls + [give_up()], [-6])
            self.check_last(calls + [ask(), give_up()], [3, 1])

    def test_the_questions_that_were_sent_stay(self):
        calls = self.due + [fuse(4), ask()]
        self.check_last(calls + [arrive(8)], [1, 2, 3, 0])
        self.check_last(calls + [arrive(7)], [2, 2, 2, 0])

    def test_nothing_due(self):
        # A credit and two questions: three in all.
        for k, words in enumerate([[], [(1, 2)], [(1, 2), (2, 1)]]):
            calls = [begin(2), fuse(k), ask()]
            self.check_last(calls, [-20])
            self.assertEqual(words_under_way(calls, 6), words)
        self.check_last([begin(2), fuse(3), ask()], [2])
        self.check_last([begin(2), fuse(3), ask(), ask()], [-20])


class InAGiveUp(CallsCase):
    """1 lacks source 2, and 2 and 3 are due behind it: three writings, then the credit 15: four in all."""

    asked = [begin(2)] + accepts(2, 1, 5) + [arrive(1)] + arrives(3, 7) + [ask()] * 3
    told = [(2,), (), ()]

    def test_how_much_is_done(self):
        for k in range(4):
            calls = self.asked + [fuse(k), give_up()]
            self.check_last(calls, [-20])
            self.assertEqual(house_behind(calls).builder.told, self.told[:k])
            self.assertFalse(is_under_way(calls, 15))

    def test_what_is_left_to_tell(self):
        for k, left in enumerate([0, 2, 1, 0]):
            self.check_last(self.asked + [fuse(k), give_up(), arrive(7)], [0, 2, 4, left])

    def test_whether_it_is_given_up(self):
        # 2 is the fragment that lacks.
        self.check_last(self.asked + [fuse(0), give_up(), arrive(2)], [0, 2, 1, 3])
        for k in range(1, 4):
            self.check_last(self.asked + [fuse(k), give_up(), arrive(2)], [0, 1, 1, 0])

    def test_the_count_stays_if_nothing_was_told(self):
        self.check_last(self.asked + [fuse(0), give_up(), give_up()], [1, 1])
        for k in range(1, 4):
            self.check_last(self.asked + [fuse(k), give_up(), give_up()], [-6])
            self.assertEqual(house_behind(self.asked + [fuse(k), give_up()]).builder.asked, 0)

    def test_the_fuse_lasts(self):
        for k in (-1, 4, 5, 6, 7, 8, 9):
            calls = self.asked + [fuse(k), give_up()]
            self.check_last(calls, [1, 1])
            self.assertEqual(house_behind(calls).builder.told, self.told)
            self.assertTrue(is_under_way(calls, 15))
            self.assertEqual(house_behind(calls).builder.fuse, max(k - 4, -1))

    def test_the_fuse_is_less_by_it(self):
        for k in (4, 5, 6):
            self.check_last(self.asked + [fuse(k), give_up(), ask()], [-20])
        for k in (-1, 7, 8, 9):
            self.check_last(self.asked + [fuse(k), give_up(), ask()], [2])

    def test_no_fuse_any_more_behind_it(self):
        for k in range(4):
            calls = self.asked + [fuse(k), give_up()] + [ask()] * 5
            self.check_last(calls, [1 if k == 0 else 2])
