"""The sources: they make a word each for a crossing, and keep it till power goes."""

from fragmentbuilder.counters import number_for
from fragmentbuilder.lines import DONE, LIFE, NOTHING_DONE


class Sources:
    def __init__(self, lines):
        self.lines = lines
        self.how_many = 0
        # One row of words for each accepted crossing, the first one's first.
        self.rows = []
        # By source: up to which number its words are lost.
        self.lost = {}

    def begin(self, how_many):
        self.how_many = how_many
        for source in range(1, how_many + 1):
            self.lost[source] = 0

    def make_words(self, row):
        self.rows.append(row)
        for source in range(1, self.how_many + 1):
            self.send_word(source, len(self.rows))

    def send_word(self, source, number):
        self.lines.send_fragment(source, number, self.rows[number - 1][source - 1])

    def has_word(self, source, number):
        return self.lost[source] < number <= len(self.rows)

    def numbers_held(self, source):
        return [number for number in range(1, len(self.rows) + 1) if self.has_word(source, number)]

    def take_question(self, source, counter):
        # One above the newest: the builder may ask ahead of the next crossing.
        number = number_for(counter, len(self.rows) + 1)
        if not self.has_word(source, number) or len(self.rows) - number > LIFE:
            return [NOTHING_DONE, number, 0]
        self.send_word(source, number)
        return [DONE, number, 0]

    def wipe(self, source):
        self.lost[source] = len(self.rows)
        return len(self.rows)
