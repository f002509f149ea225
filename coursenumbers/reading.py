"""Going through the tokens of a text from left to right, as a grammar asks."""

from coursenumbers.faults import NOT_ALLOWED, TOO_MANY, Fault
from coursenumbers.lexing import END, NUMBER, WORD, tokens_of

MOST_HANDED = 2

RESERVED = (
    "script", "parties", "seat", "of", "start", "end", "both", "flag", "num", "text", "part", "stop",
    "send", "recv", "program", "for", "def", "if", "pick", "any", "set", "go", "true", "false",
)


class Reader:
    def __init__(self, text):
        self.tokens = tokens_of(text)
        self.at = 0

    def token(self):
        return self.tokens[self.at]

    def sees_end(self):
        return self.token().kind == END

    def sees(self, content):
        return self.token().content == content

    def sees_name(self):
        return self.token().kind == WORD and self.token().content not in RESERVED

    # Whether a token is allowed is asked before how many there are,
    # since one too many is a fault of its own only where the token is allowed.
    def demand(self, allowed):
        if not allowed:
            raise Fault(NOT_ALLOWED, self.token().place)

    def demand_room(self, count, most):
        if count >= most:
            raise Fault(TOO_MANY, self.token().place)

    def take(self):
        token = self.token()
        self.at += 1
        return token

    def take_this(self, content):
        self.demand(self.sees(content))
        return self.take()

    def take_name(self):
        self.demand(self.sees_name())
        return self.take()

    def take_name_within(self, count, most):
        self.demand(self.sees_name())
        self.demand_room(count, most)
        return self.take()

    def take_number(self):
        self.demand(self.token().kind == NUMBER)
        return self.take()


# One thing or more with a sign between each two.
# read_one is handed how many came before, as it alone can tell where a thing too many begins.
def read_row(reader, sign, read_one):
    row = [read_one(reader, 0)]
    while reader.sees(sign):
        reader.take()
        row.append(read_one(reader, len(row)))
    return row


# What stands between ( and ), with a comma between each two, or nothing.
def read_bracketed(reader, read_one):
    reader.take_this("(")
    row = []
    if not reader.sees(")"):
        row = read_row(reader, ",", read_one)
    reader.take_this(")")
    return row


def read_handed(reader):
    if not reader.sees("["):
        return []
    reader.take()
    seats = read_row(reader, ",", read_seat)
    reader.take_this("]")
    return seats


def read_seat(reader, count):
    return reader.take_name_within(count, MOST_HANDED)
