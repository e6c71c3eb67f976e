"""The promises 1, 2 and 3 over many rows of calls: words lost, doubled, garbled and late, and power gone."""

import random
import unittest

from fragmentbuilder.calls import answer_to
from fragmentbuilder.house import House, answers
from tests.helper import accept, arrive, ask, begin, double, flat, fuse, garble, give_up, lose, split, wipe

FRAGMENT, QUESTION, CREDIT = 0, 1, 2


class Watched:
    """A house, and beside it what each word under way truly is of, which the lines don't carry."""

    def __init__(self, case, n):
        self.case = case
        self.n = n
        self.house = House()
        self.calls = []
        self.answered = []
        self.truth = {}
        self.rows = []
        self.do(begin(n))

    def do(self, call):
        given = call[1:]
        if call[0] == 1:
            given = call[1:4] + [call[5:]]
        word = self.house.lines.words.get(call[1]) if call[0] in (2, 4) else None
        kept_before = list(self.house.builder.journal)
        sent_before = self.house.lines.sent
        answer = answer_to(self.house, call[0], given)
        self.calls.append(call)
        self.answered.append(answer)
        if call[0] == 1 and answer[0] > 0:
            self.rows.append(call[5:])
        self.note_sent(call, sent_before)
        if call[0] == 2 and len(answer) == 4:
            self.check_taken(call[1], word, answer)
        self.case.assertEqual(self.house.builder.journal[:len(kept_before)], kept_before)
        self.check_house()

    def note_sent(self, call, sent_before):
        settled = self.house.builder.settled()
        for w in range(sent_before + 1, self.house.lines.sent + 1):
            kind = self.house.lines.words[w].kind
            if call[0] == 4 or (call[0] == 2 and kind == FRAGMENT):
                self.truth[w] = self.truth[call[1]]
            elif kind == FRAGMENT:
                self.truth[w] = len(self.rows)
            else:
                self.truth[w] = settled if kind == CREDIT else settled + 1

    def check_taken(self, w, word, answer):
        self.case.assertEqual(answer[0], word.kind)
        self.case.assertEqual(answer[1] == 0, not word.readable)
        self.case.assertEqual(answer[2], self.truth[w] if word.readable else 0)

    def check_house(self):
        house = self.house
        self.case.assertLessEqual(len(house.lines.words), 100)
        self.case.assertLessEqual(house.acceptor.credit, house.builder.settled())
        self.case.assertLessEqual(house.builder.settled(), house.acceptor.newest)
        self.case.assertLessEqual(house.acceptor.newest, house.acceptor.credit + 7)

    def check_journal(self):
        kept = {}
        told = 0
        for writing in self.house.builder.journal:
            if writing[0] == 0:
                number, source, value = writing[1:]
                self.case.assertGreater(number, told)
                self.case.assertNotIn((number, source), kept)
                self.case.assertEqual(value, self.rows[number - 1][source - 1])
                kept[(number, source)] = value
            else:
                told += 1
                lacking = tuple([z for z in range(1, self.n + 1) if (told, z) not in kept])
                self.case.assertEqual(writing[1], lacking)
        self.case.assertEqual(told, self.house.builder.settled())


def next_call(chance, watched, moment, mood):
    words = list(watched.house.lines.words)
    w = chance.choice(words) if words else 0
    if words and chance.random() < mood["orderly"]:
        w = words[0]
    throw = chance.random()
    if throw < 0.25:
        row = [chance.randint(0, 9999) for source in range(watched.n)]
        return accept(moment // 100000, moment // 1000 % 100, moment % 1000, row)
    if throw < 0.25 + mood["arrive"]:
        return arrive(w)
    if throw < 0.25 + mood["arrive"] + mood["slip"]:
        return chance.choice([lose(w), double(w), garble(w), double(w)])
    return chance.choice([ask()] * 6 + [give_up()] * 3 + [fuse(chance.randint(-1, 9)), wipe(1 + w % watched.n)])


MOODS = (
    {"orderly": 0.9, "arrive": 0.68, "slip": 0.02},
    {"orderly": 0.7, "arrive": 0.60, "slip": 0.05},
    {"orderly": 0.5, "arrive": 0.55, "slip": 0.10},
    {"orderly": 0.0, "arrive": 0.45, "slip": 0.20},
)


class Promises(unittest.TestCase):
    def play_through(self, seed):
        chance = random.Random(seed)
        watched = Watched(self, 2 + seed % 5)
        moment = 0
        while len(watched.calls) < 200:
            moment += chance.randint(1, 900)
            watched.do(next_call(chance, watched, moment, MOODS[seed // 5 % 4]))
        watched.check_journal()
        self.assertEqual(split(answers(flat(watched.calls))), watched.answered)
        return watched

    def test_many_rows_of_calls(self):
        newest = 0
        lacking = 0
        power = 0
        for seed in range(200):
            watched = self.play_through(seed)
            newest = max(newest, watched.house.acceptor.newest)
            lacking += len([told for told in watched.house.builder.told if told])
            power += watched.answered.count([-20])
        # The rows of calls must reach what they are there for.
        self.assertGreater(newest, 24)
        self.assertGreater(lacking, 20)
        self.assertGreater(power, 50)
