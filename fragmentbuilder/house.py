"""One house, new for each list of calls, and the answers to such a list."""

from fragmentbuilder.acceptor import Acceptor
from fragmentbuilder.builder import Builder
from fragmentbuilder.calls import answer_to
from fragmentbuilder.lines import Lines
from fragmentbuilder.sources import Sources

# By call: how many numbers stand behind its own, ahead of a row.
NUMBERS = {
    0: 1, 1: 3, 2: 1, 3: 1, 4: 1, 5: 1, 6: 0, 7: 0, 8: 1, 9: 1,
    10: 1, 11: 0, 12: 0, 13: 0, 14: 0, 15: 1, 16: 2, 17: 1, 18: 0, 19: 0,
}
CALLS_WITH_ROW = (1,)


class House:
    def __init__(self):
        self.lines = Lines()
        self.acceptor = Acceptor()
        self.sources = Sources(self.lines)
        self.builder = Builder(self.lines)


def answers(calls):
    house = House()
    answered = []
    place = 0
    while place < len(calls):
        call = calls[place]
        end = place + 1 + NUMBERS[call]
        given = calls[place + 1:end]
        if call in CALLS_WITH_ROW:
            row_end = end + 1 + calls[end]
            given.append(calls[end + 1:row_end])
            end = row_end
        answer = answer_to(house, call, given)
        answered.append(len(answer))
        answered.extend(answer)
        place = end
    return answered
