"""The promises over many rows of calls: words lost, doubled, garbled and late, and power gone."""

import random
import unittest

from fragmentbuilder.calls import answer_to
from fragmentbuilder.house import House, answers
from tests.helper import (
    accept, accepts, acceptor, answers_of, arrive, arrives, ask, begin, double, event, events, flat, fuse, garble,
    give_up, lose, made, open_numbers, play, row_of, split, wipe, words,
)

FRAGMENT, QUESTION, CREDIT = 0, 1, 2


class Watched:
    """A house, and beside it what each word under way truly is of, which the lines don't carry."""

    def __init__(self, case, n):
        self.case = case
        self.n = n
        self.house = House()
        self.calls = []
        self.answered = []
        self.truth = {}
        self.rows = []
        self.do(begin(n))

    def do(self, call):
        given = call[1:]
        if call[0] == 1:
            given = call[1:4] + [call[5:]]
        word = self.house.lines.words.get(call[1]) if call[0] in (2, 4) else None
        kept_before = list(self.house.builder.journal)
        sent_before = self.house.lines.sent
        answer = answer_to(self.house, call[0], given)
        self.calls.append(call)
        self.answered.append(answer)
        if call[0] == 1 and answer[0] > 0:
            self.rows.append(call[5:])
        self.note_sent(call, sent_before)
        if call[0] == 2 and len(answer) == 4:
            self.check_taken(call[1], word, answer)
        self.case.assertEqual(self.house.builder.journal[:len(kept_before)], kept_before)
        self.check_house()

    def note_sent(self, call, sent_before):
        settled = self.house.builder.settled()
        for w in range(sent_before + 1, self.house.lines.sent + 1):
            kind = self.house.lines.words[w].kind
            if call[0] == 4 or (call[0] == 2 and kind == FRAGMENT):
                self.truth[w] = self.truth[call[1]]
            elif kind == FRAGMENT:
                self.truth[w] = len(self.rows)
            else:
                self.truth[w] = settled if kind == CREDIT else settled + 1

    def check_taken(self, w, word, answer):
        self.case.assertEqual(answer[0], word.kind)
        self.case.assertEqual(answer[1] == 0, not word.readable)
        self.case.assertEqual(answer[2], self.truth[w] if word.readable else 0)

    def check_house(self):
        house = self.house
        self.case.assertLessEqual(len(house.lines.words), 100)
        self.case.assertLessEqual(house.acceptor.credit, house.builder.settled())
        self.case.assertLessEqual(house.builder.settled(), house.acceptor.newest)
        self.case.assertLessEqual(house.acceptor.newest, house.acceptor.credit + 7)

    def check_journal(self):
        kept = {}
        told = 0
        for writing in self.house.builder.journal:
            if writing[0] == 0:
                number, source, value = writing[1:]
                self.case.assertGreater(number, told)
                self.case.assertNotIn((number, source), kept)
                self.case.assertEqual(value, self.rows[number - 1][source - 1])
                kept[(number, source)] = value
            else:
                told += 1
                lacking = tuple([z for z in range(1, self.n + 1) if (told, z) not in kept])
                self.case.assertEqual(writing[1], lacking)
        self.case.assertEqual(told, self.house.builder.settled())


def next_call(chance, watched, moment, mood):
    words = list(watched.house.lines.words)
    w = chance.choice(words) if words else 0
    if words and chance.random() < mood["orderly"]:
        w = words[0]
    throw = chance.random()
    if throw < 0.25:
        row = [chance.randint(0, 9999) for source in range(watched.n)]
        return accept(moment // 100000, moment // 1000 % 100, moment % 1000, row)
    if throw < 0.25 + mood["arrive"]:
        return arrive(w)
    if throw < 0.25 + mood["arrive"] + mood["slip"]:
        return chance.choice([lose(w), double(w), garble(w), double(w)])
    return chance.choice([ask()] * 6 + [give_up()] * 3 + [fuse(chance.randint(-1, 9)), wipe(1 + w % watched.n)])


MOODS = (
    {"orderly": 0.9, "arrive": 0.68, "slip": 0.02},
    {"orderly": 0.7, "arrive": 0.60, "slip": 0.05},
    {"orderly": 0.5, "arrive": 0.55, "slip": 0.10},
    {"orderly": 0.0, "arrive": 0.45, "slip": 0.20},
)


class Promises(unittest.TestCase):
    def play_through(self, seed):
        chance = random.Random(seed)
        watched = Watched(self, 2 + seed % 5)
        moment = 0
        while len(watched.calls) < 200:
            moment += chance.randint(1, 900)
            watched.do(next_call(chance, watched, moment, MOODS[seed // 5 % 4]))
        watched.check_journal()
        self.assertEqual(split(answers(flat(watched.calls))), watched.answered)
        return watched

    def test_many_rows_of_calls(self):
        newest = 0
        lacking = 0
        power = 0
        for seed in range(200):
            watched = self.play_through(seed)
            newest = max(newest, watched.house.acceptor.newest)
            lacking += len([told for told in watched.house.builder.told if told])
            power += watched.answered.count([-20])
        # The rows of calls must reach what they are there for.
        self.assertGreater(newest, 24)
        self.assertGreater(lacking, 20)
        self.assertGreater(power, 50)


class AllIsTold(unittest.TestCase):
    """Promise 4: behind whatever slipped, one play of 600 in which nothing slips tells the rest, whole."""

    def slipped(self, seed, wipes):
        chance = random.Random(1000 + seed)
        watched = Watched(self, 2 + seed % 5)
        moment = 0
        while len(watched.calls) < 125:
            moment += chance.randint(1, 900)
            call = next_call(chance, watched, moment, MOODS[seed // 5 % 4])
            if wipes or call[0] != 8:
                watched.do(call)
        return watched

    def can_be_had(self, watched, a):
        house = watched.house
        sources = range(1, watched.n + 1)
        return all((a, z) in house.builder.kept or house.sources.has_word(z, a) for z in sources)

    def check_told(self, watched, ahead, numbers, ends):
        """Behind the play these numbers are whole, and what was told ahead of it is as it was."""
        newest = len(watched.rows)
        shown = [event(a) for a in range(1, newest + 1)]
        before = answers_of(watched.calls + shown)[len(watched.calls):]
        calls = watched.calls + ahead + [play(600), made(), events(), acceptor(), open_numbers()] + shown
        self.assertLessEqual(len(calls), 200)
        behind = answers_of(calls)[len(watched.calls) + len(ahead):]
        played, whole, told = behind[:3]
        behind = behind[5:]
        settled = watched.house.builder.settled()
        self.assertEqual(behind[:settled], before[:settled])
        for a in numbers:
            self.assertEqual(behind[a - 1], [1] + watched.rows[a - 1])
            self.assertIn(a, whole[1:])
        if ends:
            self.assertEqual(played[1], 1)
            self.assertLessEqual(played[0], 600)
            self.assertEqual(told[0], newest)
            self.assertEqual([a for a in whole[1:] if a > settled], list(range(settled + 1, newest + 1)))

    def test_sources_have_all(self):
        open_ones = 0
        for seed in range(120):
            watched = self.slipped(seed, False)
            settled = watched.house.builder.settled()
            numbers = list(range(settled + 1, len(watched.rows) + 1))
            open_ones += len(numbers)
            # A fuse that is left goes once, and what went with it is asked for.
            self.check_told(watched, [fuse(-1)], numbers, True)
            self.check_told(watched, [], numbers, True)
            self.check_told(watched, [fuse(seed % 10)], numbers, True)
        self.assertGreater(open_ones, 300)

    def test_sources_lost_some(self):
        not_all = 0
        for seed in range(120):
            watched = self.slipped(seed, True)
            number = watched.house.builder.settled() + 1
            numbers = []
            while number <= len(watched.rows) and self.can_be_had(watched, number):
                numbers.append(number)
                number += 1
            ends = number > len(watched.rows)
            not_all += not ends
            self.check_told(watched, [fuse(-1)], numbers, ends)
        self.assertGreater(not_all, 5)
        self.assertLess(not_all, 115)

    def test_all_fragments_lost(self):
        for n in range(2, 7):
            calls = [begin(n)] + accepts(n, 1, 8) + [lose(w) for w in range(1, 7 * n + 1)]
            # Of each number: an ask, its credit, n questions, n fragments, the credit behind the telling.
            given = answers_of(calls + [play(600), made(), words()] + [event(a) for a in range(1, 8)])[len(calls):]
            self.assertEqual(given[0], [7 * (2 * n + 3), 1])
            self.assertEqual(given[1:3], [[7, 1, 2, 3, 4, 5, 6, 7], [0]])
            self.assertEqual(given[3:], [[1] + row_of(a, n) for a in range(1, 8)])

    def test_a_hundred_words_under_way(self):
        for n in range(2, 7):
            for w in (1, 7 * n):
                calls = [begin(n)] + accepts(n, 1, 8) + [garble(w)] + [double(w)] * (100 - 7 * n)
                given = answers_of(calls + [words(), play(600), made()])[len(calls):]
                self.assertEqual(given[0][0], 100)
                self.assertEqual(given[1][1], 1)
                self.assertEqual(given[2], [7, 1, 2, 3, 4, 5, 6, 7])

    def test_a_hundred_questions_and_credits(self):
        # All fragments are lost and all questions are answered twice over.
        calls = [begin(6)] + accepts(6, 1, 8) + [lose(w) for w in range(1, 43)] + [ask()] * 14 + [double(44)] * 2
        given = answers_of(calls + [words(), play(600), made()])[len(calls):]
        self.assertEqual(given[0][0], 100)
        self.assertEqual(given[1][1], 1)
        self.assertEqual(given[2], [7, 1, 2, 3, 4, 5, 6, 7])

    def test_sixty_numbers_with_slips_in_each_round(self):
        ended = []
        calls = [begin(3)]
        for k in range(10):
            first = 6 * k + 1
            calls += accepts(3, first, first + 6)
            shown = answers_of(calls + [words()])[-1]
            under_way = shown[1::6]
            self.assertEqual(len(under_way), 18)
            calls += [lose(under_way[0]), garble(under_way[4]), double(under_way[9]), arrive(under_way[17])]
            calls += [fuse(k), play(600)]
            ended.append(answers_of(calls)[-1][1])
        self.assertEqual(ended, [1] * 10)
        self.assertEqual(len(calls), 121)
        shown = [made(), acceptor()] + [event(a) for a in range(1, 61)]
        given = answers_of(calls + shown)[-62:]
        self.assertEqual(given[0], [60] + list(range(1, 61)))
        self.assertEqual(given[1], [60, 60, 0])
        self.assertEqual(given[2:], [[1] + row_of(a, 3) for a in range(1, 61)])

    def test_what_comes_at_last_though_seven_are_open(self):
        # The last of the seven is heard of alone; all others are lost.
        calls = [begin(2)] + accepts(2, 1, 8) + [lose(w) for w in range(1, 14)] + arrives(14, 15) + [play(600), made()]
        given = answers_of(calls)[-2:]
        self.assertEqual(given[0][1], 1)
        self.assertEqual(given[1], [7, 1, 2, 3, 4, 5, 6, 7])
