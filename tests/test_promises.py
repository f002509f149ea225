"""A part keeps its totals and ranks when it is tidied, made least or mirrored."""

import random
import unittest

from tests import model
from tests.calling import BUYING, compare, course, goes, many_on, on, pack, rank, total, unpack, width, words_of

CHOSEN = ("P", "A", "S", [
    ("X", "send", ("A", "B"), [("x", [], [], "S")]),
    ("T", "recv", ("A", "B"), [("t", [("num", 1, 2)], ["K"], "S"), ("e", [], [], "E")]),
    ("V", "recv", ("A", "B"), [("t", [("num", 1, 2)], ["K"], "S"), ("e", [], [], "F")]),
    ("S", "send", ("A", "B"), [("b", [("flag",)], [], "T"), ("ab", [], [], "V"), ("a", [("text", 0)], [], "S")]),
    ("E", "stop", (), []), ("F", "stop", (), []), ("G", "stop", (), []),
])


class Kept(unittest.TestCase):
    def start(self, part):
        return [state[0] for state in part[3]].index(part[2])

    def totals(self, part):
        i = self.start(part)
        return on(model.part_text(part), *[total(i, n) for n in range(65)])

    def same(self, part, other, n=3):
        totals = self.totals(part)
        self.assertEqual(totals, self.totals(other))
        texts = [model.part_text(part), model.part_text(other)]
        i, k = self.start(part), self.start(other)
        many = min(totals[n][0], 150)
        told = many_on(texts[0], [course(i, n, r) for r in range(many)])
        self.assertEqual(told, many_on(texts[1], [course(k, n, r) for r in range(many)]))
        courses = [words_of(answer) for answer in told]
        self.assertEqual(many_on(texts[0], [rank(i, c) for c in courses]), [[r] for r in range(many)])
        self.assertEqual(many_on(texts[1], [rank(k, c) for c in courses]), [[r] for r in range(many)])
        self.pack_alike(texts, [i, k], n, courses)

    # What one side packs the other one unpacks.
    def pack_alike(self, texts, starts, n, courses):
        packed = [many_on(text, [pack(i, c) for c in courses]) for text, i in zip(texts, starts)]
        self.assertEqual(packed[0], packed[1])
        self.assertEqual(on(texts[0], width(starts[0], n)), on(texts[1], width(starts[1], n)))
        told = many_on(texts[1], [unpack(starts[1], n, p[1:]) for p in packed[0]])
        self.assertEqual([words_of(answer) for answer in told], courses)
        for text, i in zip(texts, starts):
            self.assertEqual([a[:2] for a in many_on(text, [goes(i, c) for c in courses])], [[1, n]] * len(courses))
            self.assertEqual(many_on(text, [compare(i, a, b) for a, b in zip(courses, courses[1:])]),
                             [[1]] * (len(courses) - 1 if courses else 0))

    def test_chosen(self):
        tidied, least = model.tidied(CHOSEN), model.least(CHOSEN)
        self.assertEqual([s[0] for s in tidied[3]], ["S", "T", "V", "E", "F"])
        self.assertEqual([s[0] for s in least[3]], ["X", "T", "S", "E"])
        for other in [tidied, least, model.least(tidied), model.mirrored(CHOSEN, "B"),
                      model.mirrored(model.least(tidied), "B")]:
            self.same(CHOSEN, other)

    def test_some(self):
        source = random.Random(12)
        fewer = 0
        for _ in range(60):
            part = model.some_part(source, 6, 2)
            tidied = model.tidied(part)
            least = model.least(part)
            fewer += len(tidied[3]) < len(part[3])
            self.same(part, tidied)
            self.same(part, least)
            self.same(part, model.mirrored(part, "W"))
            self.same(part, model.mirrored(model.least(tidied), "W"))
        self.assertGreater(fewer, 10)

    def test_states_put_together(self):
        # Each state is written twice, and every branch leads to either of the two.
        source = random.Random(13)
        for _ in range(30):
            part = model.some_part(source)
            twice = [(name + end, deed, seats, [(b[0], b[1], b[2], b[3] + source.choice(["", "2"])) for b in branches])
                     for name, deed, seats, branches in part[3] for end in ["", "2"]]
            double = (part[0], part[1], part[2], twice)
            self.assertLessEqual(len(model.least(double)[3]), len(part[3]))
            self.same(double, part)
            self.same(double, model.least(double))

    def test_both_sides_of_buying(self):
        sides = [BUYING, BUYING.replace("Ask = send Buyer -> Shop", "Ask = recv Shop <- Buyer")
                 .replace("Price = recv Buyer <- Shop", "Price = send Shop -> Buyer").replace("of Buyer", "of Shop")]
        self.assertNotEqual(*sides)
        text = 'want("two books", 2) ;\nprice(499) ;\nbye()[Key] ;\n'
        told = [on(side, total(0, 3), rank(0, text), course(0, 3, 12345)) for side in sides]
        self.assertEqual(told[0], told[1])


if __name__ == "__main__":
    unittest.main()
