"""Parts as plain data, with courses counted out one by one.

This is written apart from the program, so that the two can be held together.
A part: (title, worker, start, states); a state: (name, deed, seats, branches), deed "stop", "send" or "recv";
a branch: (label, ranges, handed, goal name); a range: ("flag",), ("num", L, H), ("text", K).
A message: (label, values, handed); a truth is True or False, a number an int, a text bytes.
"""

import itertools

ARROW = {"send": "->", "recv": "<-"}


def range_text(span):
    return " ".join(str(x) for x in span)


def branch_text(branch):
    label, ranges, handed, goal = branch
    seats = "[" + ", ".join(handed) + "]" if handed else ""
    return f"{label}({', '.join(range_text(r) for r in ranges)}){seats} {goal}"


def state_text(state):
    name, deed, seats, branches = state
    if deed == "stop":
        return f"{name} = stop\n"
    inner = " ; ".join(branch_text(b) for b in branches)
    return f"{name} = {deed} {seats[0]} {ARROW[deed]} {seats[1]} {{ {inner} }}\n"


def part_text(part):
    title, worker, start, states = part
    return f"part {title} of {worker}\nstart {start}\n" + "".join(state_text(s) for s in states)


def quoted(text):
    told = ""
    for byte in text:
        if byte in b'"\\':
            told += "\\" + chr(byte)
        elif byte == 10:
            told += "\\n"
        elif 32 <= byte <= 126:
            told += chr(byte)
        else:
            told += f"\\x{byte:02x}"
    return f'"{told}"'


def value_text(value):
    if isinstance(value, bool):
        return "true" if value else "false"
    if isinstance(value, int):
        return str(value)
    return quoted(value)


def message_text(message):
    label, values, handed = message
    seats = "[" + ", ".join(handed) + "]" if handed else ""
    return f"{label}({', '.join(value_text(v) for v in values)}){seats} ;\n"


def course_text(messages):
    return "".join(message_text(m) for m in messages)


def values_of(span):
    if span[0] == "flag":
        return [False, True]
    if span[0] == "num":
        return list(range(span[1], span[2] + 1))
    return [bytes(t) for k in range(span[1] + 1) for t in itertools.product(range(256), repeat=k)]


def messages_at(state):
    for label, ranges, handed, goal in state[3]:
        for values in itertools.product(*[values_of(r) for r in ranges]):
            yield (label, values, tuple(handed)), goal


def courses_from(part, name, n):
    states = {s[0]: s for s in part[3]}
    courses = [((), name)]
    for _ in range(n):
        courses = [(c + (m,), g) for c, at in courses for m, g in messages_at(states[at])]
    return [c for c, _ in courses]


def end_of(part, name, messages):
    states = {s[0]: s for s in part[3]}
    for message in messages:
        name = {branch[0]: branch[3] for branch in states[name][3]}[message[0]]
    return name


def value_key(value):
    return (len(value), list(value)) if isinstance(value, bytes) else value


def course_key(messages):
    return [(list(label.encode()), [value_key(v) for v in values]) for label, values, _ in messages]


def in_order(part, name, n):
    return sorted(courses_from(part, name, n), key=course_key)


def tidied(part):
    title, worker, start, states = part
    named = {s[0]: s for s in states}
    reached = [start]
    for name in reached:
        for branch in named[name][3]:
            if branch[3] not in reached:
                reached.append(branch[3])
    return (title, worker, start, [named[name] for name in reached])


def outline(state, classes):
    name, deed, seats, branches = state
    told = sorted((b[0], tuple(b[1]), tuple(b[2]), classes[b[3]]) for b in branches)
    return (deed, tuple(seats), tuple(told))


# States are told apart more and more finely, until nothing more tells any two apart.
# What is kept of a class is its first state; names lead to it.
def least(part):
    title, worker, start, states = part
    classes = {s[0]: 0 for s in states}
    while True:
        outlines = {s[0]: (classes[s[0]], outline(s, classes)) for s in states}
        kinds = sorted(set(outlines.values()), key=repr)
        finer = {name: kinds.index(o) for name, o in outlines.items()}
        if len(kinds) == len(set(classes.values())):
            break
        classes = finer
    first = {}
    for s in states:
        first.setdefault(classes[s[0]], s[0])
    kept = [s for s in states if first[classes[s[0]]] == s[0]]
    lead = {name: first[c] for name, c in classes.items()}
    return (title, worker, lead[start], [
        (name, deed, seats, [(b[0], b[1], b[2], lead[b[3]]) for b in branches])
        for name, deed, seats, branches in kept])


def mirrored(part, worker):
    other = {"stop": "stop", "send": "recv", "recv": "send"}
    return (part[0], worker, part[2], [
        (name, other[deed], tuple(reversed(seats)), branches) for name, deed, seats, branches in part[3]])


SPANS = [("flag",), ("num", 0, 0), ("num", -1, 1), ("num", 5, 7), ("text", 0)]
LABELS = ["a", "ab", "abc", "B", "b", "Z", "z", "a1", "aB"]


def some_part(random, most_states=4, most_branches=3):
    names = random.sample(["S", "T", "U", "a", "ab", "q9"], random.randint(1, most_states))
    states = []
    for name in names:
        if random.random() < 0.2:
            states.append((name, "stop", (), []))
            continue
        labels = random.sample(LABELS, random.randint(1, most_branches))
        branches = [(label, random.choices(SPANS, k=random.choice([0, 0, 1, 1, 2])),
                     random.sample(["K", "L", "M"], random.choice([0, 0, 1, 2])), random.choice(names))
                    for label in labels]
        states.append((name, random.choice(["send", "recv"]), tuple(random.sample(["A", "B", "C"], 2)), branches))
    return ("P", "A", random.choice(names), states)
