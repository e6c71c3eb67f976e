"""The calls on a house: what each refuses, and what those do that change it."""

from fragmentbuilder.builder import PowerGone
from fragmentbuilder.lines import CREDIT, FRAGMENT, QUESTION, UNREADABLE
from fragmentbuilder.reports import is_report, report

NOT_AS_TOLD = -1
NOT_BEHIND = -3
NOT_BEGUN = -4
NO_SUCH_WORD = -5
NOT_NOW = -6
TOO_MANY = -8
POWER_GONE = -20

BEGIN = 0
ACCEPT = 1

BEFORE_BEGIN = (0, 9, 16, 18)
OF_A_WORD = (2, 3, 4, 5)
OF_A_SOURCE = (8, 15)

# By call: from where to where each of its numbers goes, where that is always the same.
RANGES = {
    0: ((2, 6),),
    1: ((0, 99), (0, 99), (0, 999)),
    9: ((-1, 9),),
    10: ((1, 60),),
    16: ((0, 1000), (0, 15)),
    17: ((0, 1000),),
}
MOST_VALUE = 9999


def row_is_as_told(row, how_many):
    return len(row) == how_many and all([0 <= value <= MOST_VALUE for value in row])


def is_as_told(house, call, given):
    for number, bounds in zip(given, RANGES.get(call, ())):
        if not bounds[0] <= number <= bounds[1]:
            return False
    if call == ACCEPT:
        return row_is_as_told(given[3], house.sources.how_many)
    if call in OF_A_SOURCE:
        return 1 <= given[0] <= house.sources.how_many
    return True


def early_refusal(house, call, given):
    begun = house.sources.how_many > 0
    if not begun and call not in BEFORE_BEGIN:
        return NOT_BEGUN
    if begun and call == BEGIN:
        return NOT_NOW
    if not is_as_told(house, call, given):
        return NOT_AS_TOLD
    if call in OF_A_WORD and given[0] not in house.lines.words:
        return NO_SUCH_WORD
    return 0


def begin(house, given):
    house.sources.begin(given[0])
    house.builder.begin(given[0])
    return [given[0]]


def accept(house, given):
    acceptor = house.acceptor
    moment = (100 * given[0] + given[1]) * 1000 + given[2]
    if moment <= acceptor.last_moment:
        return [NOT_BEHIND]
    if acceptor.is_busy():
        acceptor.count_dead()
        return [0]
    # Room is asked for ahead of the words that this crossing ends.
    if acceptor.is_full() or not house.lines.has_room(house.sources.how_many):
        return [TOO_MANY]
    number = acceptor.accept(moment)
    house.lines.pass_crossing()
    house.sources.make_words(given[3])
    return [number]


def arrive(house, given):
    word = house.lines.take_off(given[0])
    if not word.readable:
        return [word.kind, UNREADABLE, 0, 0]
    if word.kind == FRAGMENT:
        return [FRAGMENT] + house.builder.take_fragment(word.source, word.counter, word.value)
    if word.kind == QUESTION:
        return [QUESTION] + house.sources.take_question(word.source, word.counter)
    return [CREDIT] + house.acceptor.take_credit(word.counter)


def lose(house, given):
    house.lines.take_off(given[0])
    return [0]


def double(house, given):
    if not house.lines.has_room(1):
        return [TOO_MANY]
    return [house.lines.send_twin(house.lines.words[given[0]])]


def garble(house, given):
    word = house.lines.words[given[0]]
    word.readable = False
    return [0]


def ask(house, given):
    if not house.lines.has_room(house.sources.how_many + 1):
        return [TOO_MANY]
    return [house.builder.ask()]


def give_up(house, given):
    if not house.builder.may_give_up():
        return [NOT_NOW]
    if not house.lines.has_room(1):
        return [TOO_MANY]
    return house.builder.give_up()


def wipe(house, given):
    return [house.sources.wipe(given[0])]


def fuse(house, given):
    house.builder.set_fuse(given[0])
    return [0]


def all_is_settled(house):
    newest = house.acceptor.newest
    return house.builder.settled() == newest and house.acceptor.credit == newest


def take_step(house):
    try:
        if house.lines.is_empty():
            house.builder.ask()
        else:
            arrive(house, [house.lines.first_sent()])
    except PowerGone:
        # Play goes on behind it: what was done stays, as behind any -20.
        pass


def play(house, given):
    steps = 0
    while steps < given[0] and not (house.lines.is_empty() and all_is_settled(house)):
        take_step(house)
        steps += 1
    return [steps, 1 if all_is_settled(house) else 0]


ACTIONS = {
    0: begin,
    1: accept,
    2: arrive,
    3: lose,
    4: double,
    5: garble,
    6: ask,
    7: give_up,
    8: wipe,
    9: fuse,
    17: play,
}


def answer_to(house, call, given):
    refused = early_refusal(house, call, given)
    if refused < 0:
        return [refused]
    if is_report(call):
        return report(house, call, given)
    action = ACTIONS[call]
    try:
        return action(house, given)
    except PowerGone:
        return [POWER_GONE]
