"""The builder: its journal, what the journal makes, and its fuse."""

from fragmentbuilder.counters import number_for
from fragmentbuilder.lines import DONE, NOTHING_DONE

KEPT = 0
TOLD = 1

NO_FUSE = -1
REACH = 8
ASKED_ENOUGH = 3


class PowerGone(Exception):
    pass


class Builder:
    def __init__(self, lines):
        self.lines = lines
        self.how_many = 0
        self.fuse = NO_FUSE
        self.journal = []
        # What the journal makes: words by number and source, the greatest
        # number among them, and by told number the sources that lack.
        self.kept = {}
        self.greatest_kept = 0
        self.told = []
        self.asked = 0

    def begin(self, how_many):
        self.how_many = how_many

    def set_fuse(self, fuse):
        self.fuse = fuse

    def settled(self):
        return len(self.told)

    def heard(self):
        return max(self.greatest_kept, self.settled())

    def lacking(self, number):
        return [source for source in range(1, self.how_many + 1) if (number, source) not in self.kept]

    def burn(self):
        # Ahead of each writing and sending: what the fuse doesn't bear isn't done.
        if self.fuse == 0:
            self.fuse = NO_FUSE
            raise PowerGone()
        if self.fuse > 0:
            self.fuse -= 1

    def write_kept(self, number, source, value):
        self.burn()
        self.journal.append((KEPT, number, source, value))
        self.kept[(number, source)] = value
        self.greatest_kept = max(self.greatest_kept, number)

    def write_told(self, lacking):
        self.burn()
        self.journal.append((TOLD, tuple(lacking)))
        self.told.append(tuple(lacking))
        self.asked = 0

    def send_credit(self):
        self.burn()
        self.lines.send_credit(self.settled())

    def send_question(self, source, number):
        self.burn()
        self.lines.send_question(source, number)

    def write_due(self):
        before = self.settled()
        while self.lacking(self.settled() + 1) == []:
            self.write_told([])
        return self.settled() - before

    def take_fragment(self, source, counter, value):
        number = number_for(counter, self.heard() + REACH)
        if number <= self.settled() or (number, source) in self.kept:
            return [NOTHING_DONE, number, 0]
        self.write_kept(number, source, value)
        told = self.write_due()
        if told > 0:
            self.send_credit()
        return [DONE, number, told]

    def ask(self):
        self.write_due()
        self.send_credit()
        number = self.settled() + 1
        lacking = self.lacking(number)
        for source in lacking:
            self.send_question(source, number)
        # Reached only if power didn't go on the way.
        self.asked += 1
        return len(lacking)

    def may_give_up(self):
        number = self.settled() + 1
        return number <= self.heard() and self.lacking(number) != [] and self.asked >= ASKED_ENOUGH

    def give_up(self):
        number = self.settled() + 1
        lacking = self.lacking(number)
        self.write_told(lacking)
        self.write_due()
        self.send_credit()
        return [number, len(lacking)]
