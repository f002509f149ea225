"""The calls on an object that holds a part, and their answers."""

from coursenumbers.counting import Counts
from coursenumbers.courses import MOST_MESSAGES, end_of, path_of, read_course, wrong_with
from coursenumbers.faults import Fault
from coursenumbers.forms import course_form
from coursenumbers.loading import part_of
from coursenumbers.packing import packed_number, unpacked_number, width_of
from coursenumbers.ranking import course_of, rank_of

NO_REFUSAL = 0
NO_PART = -1
NOT_THERE = -2
TOO_GREAT = -3
NO_COURSE = -4
GOES_NOT = -5
NO_RANK = -6
NO_SUCH_WIDTH = -7
NO_SECOND_COURSE = -7
SECOND_GOES_NOT = -8
LENGTHS_UNLIKE = -9

BEFORE = 1
SAME = 2
BEHIND = 3

LOAD = 0
SHOWN = 1
SIZE = 2
TOTAL = 3
RANK = 4
COURSE = 5
LATER = 6
COMPARE = 7
SHARE = 8
WIDTH = 9
PACK = 10
UNPACK = 11
GOES = 12

# For each call: how many whole numbers it has, and how many rows behind them.
NUMBERS = (0, 0, 2, 2, 1, 3, 2, 1, 3, 2, 1, 2, 1)
ROWS = (1, 0, 0, 0, 1, 0, 1, 2, 0, 0, 1, 1, 1)


class UnknownCall(ValueError):
    pass


# A course as a text tells it: a refusal, or its messages and the branches by which they come.
class Told:
    def __init__(self, refusal, messages, path):
        self.refusal = refusal
        self.messages = messages
        self.path = path


class Teller:
    def __init__(self):
        self.counts = None

    def load(self, text):
        try:
            part = part_of(text)
        except Fault as fault:
            return [0, fault.code, fault.place]
        self.counts = Counts(part)
        return [1]

    def shown(self):
        if self.counts is None:
            return [NO_PART]
        return counted(self.counts.part.form)

    def size(self, i, j):
        refusal = self.state_refusal(i)
        if refusal != NO_REFUSAL:
            return [refusal]
        if not self.has_branch(i, j):
            return [NOT_THERE]
        many = self.branch(i, j).many
        if many >= self.counts.limit:
            return [TOO_GREAT]
        return [many]

    def total(self, i, n):
        refusal = self.number_refusal(i, n)
        if refusal != NO_REFUSAL:
            return [refusal]
        return [self.counts.total(i, n)]

    def rank(self, i, text):
        told = self.told_course(i, text)
        if told.refusal != NO_REFUSAL:
            return [told.refusal]
        return [self.rank_told(i, told)]

    def course(self, i, n, r):
        refusal = self.number_refusal(i, n)
        if refusal != NO_REFUSAL:
            return [refusal]
        return self.course_answer(i, n, r)

    def later(self, i, k, text):
        told = self.told_course(i, text)
        if told.refusal != NO_REFUSAL:
            return [told.refusal]
        return self.course_answer(i, len(told.messages), self.rank_told(i, told) + k)

    def compare(self, i, first_text, second_text):
        first = self.told_course(i, first_text)
        if first.refusal != NO_REFUSAL:
            return [first.refusal]
        second = self.told_way(i, second_text, NO_SECOND_COURSE, SECOND_GOES_NOT)
        if second.refusal != NO_REFUSAL:
            return [second.refusal]
        if len(second.messages) != len(first.messages):
            return [LENGTHS_UNLIKE]
        return [order_of(self.rank_told(i, first), self.rank_told(i, second))]

    def share(self, i, n, j):
        refusal = self.number_refusal(i, n)
        if refusal != NO_REFUSAL:
            return [refusal]
        if not self.has_branch(i, j):
            return [NOT_THERE]
        if n == 0:
            return [NO_RANK]
        return [self.counts.courses_by(self.branch(i, j), n - 1)]

    def width(self, i, n):
        refusal = self.number_refusal(i, n)
        if refusal != NO_REFUSAL:
            return [refusal]
        total = self.counts.total(i, n)
        if total == 0:
            return [NO_RANK]
        return [width_of(total)]

    def pack(self, i, text):
        told = self.told_course(i, text)
        if told.refusal != NO_REFUSAL:
            return [told.refusal]
        width = width_of(self.counts.total(i, len(told.messages)))
        return counted(packed_number(self.rank_told(i, told), width))

    def unpack(self, i, n, packed):
        refusal = self.number_refusal(i, n)
        if refusal != NO_REFUSAL:
            return [refusal]
        if len(packed) != width_of(self.counts.total(i, n)):
            return [NO_SUCH_WIDTH]
        return self.course_answer(i, n, unpacked_number(packed))

    def goes(self, i, text):
        refusal = self.state_refusal(i)
        if refusal != NO_REFUSAL:
            return [refusal]
        try:
            messages = read_course(text)
        except Fault as fault:
            return [0, fault.code, fault.place]
        part = self.counts.part
        path = path_of(part, i, messages)
        end = end_of(i, path)
        if len(path) < len(messages):
            return [2, len(path), wrong_with(part.states[end], messages[len(path)])]
        return [1, len(messages), end]

    def has_branch(self, i, j):
        return 0 <= j < len(self.counts.part.states[i].branches)

    def branch(self, i, j):
        return self.counts.part.states[i].branches[j]

    def rank_told(self, i, told):
        return rank_of(self.counts, i, told.messages, told.path)

    def course_answer(self, i, n, r):
        if r < 0 or r >= self.counts.total(i, n):
            return [NO_RANK]
        return counted(course_form(course_of(self.counts, i, n, r)))

    def state_refusal(self, i):
        if self.counts is None:
            return NO_PART
        if i < 0 or i >= len(self.counts.part.states):
            return NOT_THERE
        return NO_REFUSAL

    def number_refusal(self, i, n):
        refusal = self.state_refusal(i)
        if refusal != NO_REFUSAL:
            return refusal
        if n < 0 or n > MOST_MESSAGES:
            return NOT_THERE
        return self.total_refusal(i, n)

    def total_refusal(self, i, n):
        if self.counts.total(i, n) >= self.counts.limit:
            return TOO_GREAT
        return NO_REFUSAL

    def told_course(self, i, text):
        refusal = self.state_refusal(i)
        if refusal != NO_REFUSAL:
            return Told(refusal, [], [])
        told = self.told_way(i, text, NO_COURSE, GOES_NOT)
        if told.refusal != NO_REFUSAL:
            return told
        return Told(self.total_refusal(i, len(told.messages)), told.messages, told.path)

    # What refuses a text is handed in, since it is another number for the second of two.
    def told_way(self, i, text, no_course, goes_not):
        try:
            messages = read_course(text)
        except Fault:
            return Told(no_course, [], [])
        path = path_of(self.counts.part, i, messages)
        if len(path) < len(messages):
            return Told(goes_not, [], [])
        return Told(NO_REFUSAL, messages, path)


# Ranks keep the order of courses, so they tell it.
def order_of(first_rank, second_rank):
    if first_rank < second_rank:
        return BEFORE
    if first_rank > second_rank:
        return BEHIND
    return SAME


def counted(told):
    return [len(told)] + told


# The numbers that are handed in, taken one behind another.
class Feed:
    def __init__(self, calls):
        self.calls = calls
        self.at = 0

    def is_done(self):
        return self.at >= len(self.calls)

    def one(self):
        taken = self.calls[self.at]
        self.at += 1
        return taken

    def row(self):
        length = self.one()
        taken = self.calls[self.at:self.at + length]
        self.at += length
        return taken


def answers(calls):
    teller = Teller()
    feed = Feed(calls)
    told = []
    while not feed.is_done():
        told.extend(counted(answer_of(teller, feed)))
    return told


def answer_of(teller, feed):
    call = feed.one()
    if call < LOAD or call > GOES:
        raise UnknownCall(f"no call has the number {call}")
    numbers = [feed.one() for k in range(NUMBERS[call])]
    rows = [feed.row() for k in range(ROWS[call])]
    return answer_to(teller, call, numbers, rows)


def answer_to(teller, call, numbers, rows):
    if call == LOAD:
        return teller.load(rows[0])
    if call == SHOWN:
        return teller.shown()
    if call == SIZE:
        return teller.size(numbers[0], numbers[1])
    if call == TOTAL:
        return teller.total(numbers[0], numbers[1])
    if call == RANK:
        return teller.rank(numbers[0], rows[0])
    if call == COURSE:
        return teller.course(numbers[0], numbers[1], numbers[2])
    if call == LATER:
        return teller.later(numbers[0], numbers[1], rows[0])
    if call == COMPARE:
        return teller.compare(numbers[0], rows[0], rows[1])
    if call == SHARE:
        return teller.share(numbers[0], numbers[1], numbers[2])
    if call == WIDTH:
        return teller.width(numbers[0], numbers[1])
    if call == PACK:
        return teller.pack(numbers[0], rows[0])
    if call == UNPACK:
        return teller.unpack(numbers[0], numbers[1], rows[0])
    return teller.goes(numbers[0], rows[0])
