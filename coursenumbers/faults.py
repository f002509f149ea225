"""The fault of a text that cannot be taken."""

TOO_LONG = 1
NO_TOKEN = 2
NOT_ALLOWED = 3
TOO_MANY = 4
NAMED_BEFORE = 5
NO_SUCH_STATE = 6
NO_BOUNDS = 7
SAME_SEATS = 8
HANDS_WORKER = 9
FORM_TOO_LONG = 10


class Fault(Exception):
    def __init__(self, code, place):
        self.code = code
        self.place = place
