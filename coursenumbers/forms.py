"""The one form of parts, values and courses, as bytes."""

from coursenumbers.lexing import BACKSLASH, LINE_FEED, QUOTE
from coursenumbers.parts import STOP, arrow_of
from coursenumbers.spans import FLAG, NUM

HEX_DIGITS = "0123456789abcdef"


def bytes_of(text):
    return [ord(character) for character in text]


def part_form(part):
    lines = [
        " ".join(["part", part.title.content, "of", part.worker.content]),
        " ".join(["start", part.start.content]),
    ]
    for state in part.states:
        lines.append(state_form(state))
    return bytes_of("".join([line + "\n" for line in lines]))


def state_form(state):
    words = [state.name.content, "=", state.deed]
    if state.deed != STOP:
        branches = " ; ".join([branch_form(branch) for branch in state.branches])
        words.extend([state.first.content, arrow_of(state.deed), state.second.content, "{", branches, "}"])
    return " ".join(words)


def branch_form(branch):
    spans = ", ".join([span_form(span) for span in branch.spans])
    handed = handed_form([seat.content for seat in branch.handed])
    return branch.label.content + "(" + spans + ")" + handed + " " + branch.target.content


def span_form(span):
    if span.kind == FLAG:
        return span.kind
    if span.kind == NUM:
        return " ".join([span.kind, str(span.least), str(span.most)])
    return " ".join([span.kind, str(span.most)])


def handed_form(seats):
    if len(seats) == 0:
        return ""
    return "[" + ", ".join(seats) + "]"


def course_form(messages):
    told = []
    for message in messages:
        told.extend(message_form(message))
    return told


def message_form(message):
    told = bytes_of(message.label + "(")
    for count, value in enumerate(message.given):
        if count > 0:
            told.extend(bytes_of(", "))
        told.extend(value_form(value))
    told.extend(bytes_of(")" + handed_form(message.handed) + " ;\n"))
    return told


def value_form(value):
    if value.kind == FLAG:
        return bytes_of("true" if value.content == 1 else "false")
    if value.kind == NUM:
        return bytes_of(str(value.content))
    return quoted_form(value.content)


def quoted_form(content):
    told = [QUOTE]
    for byte in content:
        told.extend(quoted_byte_form(byte))
    told.append(QUOTE)
    return told


def quoted_byte_form(byte):
    if byte == QUOTE or byte == BACKSLASH:
        return [BACKSLASH, byte]
    if byte == LINE_FEED:
        return bytes_of("\\n")
    if byte < 32 or byte > 126:
        return bytes_of("\\x" + HEX_DIGITS[byte // 16] + HEX_DIGITS[byte % 16])
    return [byte]
