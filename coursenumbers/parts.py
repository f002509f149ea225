"""Parts, and reading one from its text as the grammar asks."""

from coursenumbers.faults import NO_BOUNDS, Fault
from coursenumbers.reading import Reader, read_bracketed, read_handed, read_row
from coursenumbers.spans import FLAG, NUM, TEXT, Span, message_count

MOST_STATES = 64
MOST_BRANCHES = 16
MOST_SPANS = 4
LONGEST_SPAN = 255

STOP = "stop"
SEND = "send"
RECV = "recv"


# Names stay tokens, since a fault in them is told with its place.
# What rests on all names (goal, by_label) is filled in once they are known to be right.
class Branch:
    def __init__(self, label, spans, handed, target):
        self.label = label
        self.spans = spans
        self.handed = handed
        self.target = target
        self.many = message_count(spans)
        self.goal = 0


class State:
    def __init__(self, name, deed, first, second, branches):
        self.name = name
        self.deed = deed
        self.first = first
        self.second = second
        self.branches = branches
        self.by_label = []


class Part:
    def __init__(self, title, worker, start, states):
        self.title = title
        self.worker = worker
        self.start = start
        self.states = states
        self.form = []


def read_part(text):
    reader = Reader(text)
    reader.take_this("part")
    title = reader.take_name()
    reader.take_this("of")
    worker = reader.take_name()
    reader.take_this("start")
    start = reader.take_name()
    states = [read_state(reader, 0)]
    while not reader.sees_end():
        states.append(read_state(reader, len(states)))
    return Part(title, worker, start, states)


def read_state(reader, count):
    name = reader.take_name_within(count, MOST_STATES)
    reader.take_this("=")
    reader.demand(reader.sees(STOP) or reader.sees(SEND) or reader.sees(RECV))
    deed = reader.take().content
    if deed == STOP:
        return State(name, deed, None, None, [])
    first = reader.take_name()
    reader.take_this(arrow_of(deed))
    second = reader.take_name()
    return State(name, deed, first, second, read_branches(reader))


def arrow_of(deed):
    return "->" if deed == SEND else "<-"


def read_branches(reader):
    reader.take_this("{")
    branches = read_row(reader, ";", read_branch)
    reader.take_this("}")
    return branches


def read_branch(reader, count):
    label = reader.take_name_within(count, MOST_BRANCHES)
    spans = read_bracketed(reader, read_span)
    handed = read_handed(reader)
    target = reader.take_name()
    return Branch(label, spans, handed, target)


def read_span(reader, count):
    reader.demand(reader.sees(FLAG) or reader.sees(NUM) or reader.sees(TEXT))
    reader.demand_room(count, MOST_SPANS)
    kind = reader.take().content
    if kind == FLAG:
        return Span(FLAG, 0, 1)
    if kind == NUM:
        return read_num(reader)
    return read_text(reader)


def read_num(reader):
    least = reader.take_number()
    most = reader.take_number()
    if most.content < least.content:
        raise Fault(NO_BOUNDS, most.place)
    return Span(NUM, least.content, most.content)


def read_text(reader):
    longest = reader.take_number()
    if longest.content < 0 or longest.content > LONGEST_SPAN:
        raise Fault(NO_BOUNDS, longest.place)
    return Span(TEXT, 0, longest.content)
