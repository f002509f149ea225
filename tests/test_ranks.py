import random
import unittest

from tests import model
from tests.calling import PLAIN, course, later, many_on, on, rank, row, total, words_of


class Examples(unittest.TestCase):
    def test_document(self):
        told = {'a("") ;': 0, 'a("b") ;': 99, "m(0, false) ;": 257, "m(0, true) ;": 258, "m(1, false) ;": 259,
                'm(1, false) ; a("") ;': 554}
        self.assertEqual(on(PLAIN, *[rank(0, text) for text in told]), [[r] for r in told.values()])
        self.assertEqual(on(PLAIN, course(0, 1, 99), course(0, 1, 258), course(0, 2, 554)),
                         [row('a("b") ;\n'), row("m(0, true) ;\n"), row('m(1, false) ;\na("") ;\n')])


# All courses of n messages from each state stand in their order, found apart from the program.
class SmallParts(unittest.TestCase):
    def hold_together(self, part, most):
        text = model.part_text(part)
        for i, state in enumerate(part[3]):
            for n in range(most + 1):
                courses = [model.course_text(c) for c in model.in_order(part, state[0], n)]
                if len(courses) > 700:
                    continue
                self.assertEqual(on(text, total(i, n)), [[len(courses)]])
                self.assertEqual(many_on(text, [course(i, n, r) for r in range(len(courses))]),
                                 [row(c) for c in courses])
                self.assertEqual(many_on(text, [rank(i, c) for c in courses]), [[r] for r in range(len(courses))])
                self.assertEqual(on(text, course(i, n, len(courses)), course(i, n, -1)), [[-6], [-6]])

    def test_some_parts(self):
        source = random.Random(7)
        for _ in range(40):
            self.hold_together(model.some_part(source), 3)

    def test_texts(self):
        self.hold_together(("P", "A", "S", [("S", "send", ("A", "B"), [("t", [("text", 1)], [], "S")])]), 1)
        self.hold_together(("P", "A", "S", [("S", "send", ("A", "B"), [
            ("t", [("flag",), ("text", 1)], ["K"], "T"), ("s", [("text", 0)], [], "T")]), ("T", "stop", (), [])]), 2)

    def test_labels(self):
        labels = ["b", "ab", "a", "abc", "aB", "B", "A", "Ab", "z", "Z", "a0", "a9", "ac", "a0a", "zz", "Zz"]
        self.hold_together(("P", "A", "S", [("S", "recv", ("A", "B"), [(l, [], [], "S") for l in labels])]), 2)
        source = random.Random(8)
        for _ in range(5):
            source.shuffle(labels)
            self.hold_together(("P", "A", "S", [("S", "send", ("A", "B"), [
                (l, [("num", k % 3, 2)], [], "ST"[k % 2]) for k, l in enumerate(labels)]), ("T", "stop", (), [])]), 2)

    def test_first_value_counts_most(self):
        self.hold_together(("P", "A", "S", [("S", "send", ("A", "B"), [
            ("m", [("num", -2, 2), ("flag",), ("num", 7, 9), ("flag",)], ["K", "L"], "S")])]), 2)


class LongTexts(unittest.TestCase):
    PART = "part P of A start S S = send A -> B { t(text 255, flag) S ; s(text 3) S }"

    def key(self, text):
        return (len(text), list(text))

    def test_order_and_back(self):
        source = random.Random(9)
        many = sum(256 ** k for k in range(4))
        found = []
        for _ in range(60):
            letters = bytes(source.randrange(256) for _ in range(source.choice([0, 1, 2, 3, 4, 100, 254, 255])))
            if source.random() < 0.3:
                letters = bytes([source.choice([0, 255])]) * len(letters)
            text = model.course_text([("t", (letters, True), ())])
            told = on(self.PART, rank(0, text), later(0, -1, text), later(0, 0, text))
            self.assertEqual(words_of(told[1]), model.course_text([("t", (letters, False), ())]))
            self.assertEqual(words_of(told[2]), text)
            before = sum(256 ** k for k in range(len(letters))) + int.from_bytes(letters, "big")
            self.assertEqual(told[0], [many + 2 * before + 1])
            found.append((told[0][0], letters))
        self.assertEqual([t for _, t in sorted(found)], sorted([t for _, t in found], key=self.key))

    def test_edges(self):
        first, last = model.quoted(b""), model.quoted(bytes([255]) * 255)
        self.assertEqual(words_of(on(self.PART, course(0, 1, 0))[0]), f"s({first}) ;\n")
        many = on(self.PART, total(0, 1))[0][0]
        self.assertEqual(words_of(on(self.PART, course(0, 1, many - 1))[0]), f"t({last}, true) ;\n")
        for length in [0, 1, 2, 254]:
            greatest = model.course_text([("t", (bytes([255]) * length, True), ())])
            told = words_of(on(self.PART, later(0, 1, greatest))[0])
            self.assertEqual(told, model.course_text([("t", (bytes(length + 1), False), ())]))


class Later(unittest.TestCase):
    def test_steps(self):
        source = random.Random(10)
        for _ in range(20):
            part = model.some_part(source)
            text = model.part_text(part)
            i = source.randrange(len(part[3]))
            courses = [model.course_text(c) for c in model.in_order(part, part[3][i][0], 2)]
            for _ in range(20):
                if courses:
                    at, k = source.randrange(len(courses)), source.randint(-len(courses), len(courses))
                    answer = row(courses[at + k]) if 0 <= at + k < len(courses) else [-6]
                    self.assertEqual(on(text, later(i, k, courses[at])), [answer])

    def test_of_no_messages(self):
        self.assertEqual(on(PLAIN, later(0, 0, ""), later(1, 0, ""), later(1, 1, ""), later(0, -1, "")),
                         [[0], [0], [-6], [-6]])


class LongCourses(unittest.TestCase):
    PART = ("part P of A start S S = send A -> B { m(num -7 7, flag) T ; a(text 2)[K] S ; q() T } "
            "T = recv A <- B { z(num 1 3)[L, M] S ; Z(flag) T ; y() U } U = stop")

    def test_there_and_back(self):
        source = random.Random(11)
        for i, n in [(0, 64), (1, 64), (0, 63), (0, 20)]:
            many = on(self.PART, total(i, n))[0][0]
            ranks = [0, 1, many - 1, many // 2] + [source.randrange(many) for _ in range(30)]
            texts = []
            for r in sorted(ranks):
                texts.append(words_of(on(self.PART, course(i, n, r))[0]))
                self.assertEqual(on(self.PART, rank(i, texts[-1])), [[r]])
                self.assertEqual(texts[-1].count(" ;\n"), n)


if __name__ == "__main__":
    unittest.main()
