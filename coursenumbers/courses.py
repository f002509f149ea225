"""Courses: reading one from its text, and the way it goes through a part."""

from coursenumbers.lexing import NUMBER, QUOTED
from coursenumbers.parts import STOP
from coursenumbers.reading import Reader, read_bracketed, read_handed
from coursenumbers.spans import FLAG, NUM, TEXT, Value, fits

MOST_MESSAGES = 64
MOST_VALUES = 4

MAY_COME = 0
AT_STOP = 1
NO_SUCH_LABEL = 3
VALUES_UNFIT = 5
HANDED_UNLIKE = 6


class Message:
    def __init__(self, label, given, handed):
        self.label = label
        self.given = given
        self.handed = handed


def read_course(text):
    reader = Reader(text)
    messages = []
    while not reader.sees_end():
        messages.append(read_message(reader, len(messages)))
    return messages


def read_message(reader, count):
    label = reader.take_name_within(count, MOST_MESSAGES)
    given = read_bracketed(reader, read_value)
    handed = read_handed(reader)
    reader.take_this(";")
    return Message(label.content, given, [seat.content for seat in handed])


def read_value(reader, count):
    kind = reader.token().kind
    truth = reader.sees("true") or reader.sees("false")
    reader.demand(truth or kind == NUMBER or kind == QUOTED)
    reader.demand_room(count, MOST_VALUES)
    content = reader.take().content
    if truth:
        return Value(FLAG, 1 if content == "true" else 0)
    if kind == NUMBER:
        return Value(NUM, content)
    return Value(TEXT, content)


# The branches by which the messages come, up to the first message that is wrong.
def path_of(part, number, messages):
    path = []
    state = part.states[number]
    for message in messages:
        if wrong_with(state, message) != MAY_COME:
            return path
        branch = branch_of(state, message.label)
        path.append(branch)
        state = part.states[branch.goal]
    return path


# The number of the state behind a path that begins at the state of this number.
def end_of(number, path):
    if len(path) == 0:
        return number
    return path[len(path) - 1].goal


def wrong_with(state, message):
    if state.deed == STOP:
        return AT_STOP
    branch = branch_of(state, message.label)
    if branch is None:
        return NO_SUCH_LABEL
    if not all_fit(branch.spans, message.given):
        return VALUES_UNFIT
    if [seat.content for seat in branch.handed] != message.handed:
        return HANDED_UNLIKE
    return MAY_COME


def branch_of(state, label):
    for branch in state.branches:
        if branch.label.content == label:
            return branch
    return None


def all_fit(spans, given):
    if len(spans) != len(given):
        return False
    for span, value in zip(spans, given):
        if not fits(span, value):
            return False
    return True
