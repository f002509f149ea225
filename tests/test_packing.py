import random
import unittest

from tests import model
from tests.calling import (BUYING, LIMIT, PLAIN, course, later, load, many_on, on, pack, rank, row, run, total, unpack,
                           width, words_of)
from tests.test_totals import chain, texts

FAR = 10 ** 18
PART = ("part P of A start S S = send A -> B { m(num 0 9) S ; u() U } "
        "T = recv A <- B { t(text 255, text 255) T ; w(flag) U } U = stop V = send A -> B { v() V }")


def numbers_up_to(many):
    return f"part P of A start S S = send A -> B {{ m(num 1 {many}) S }}"


# At the state 0 the total of n is 256 to the power 12 n, at the state 1 it is one more.
POWERS = ("part P of A start F F = send A -> B { f(num 1 16777216, num 1 16777216, num 1 16777216, num 1 16777216) F } "
          "G = send A -> B { f(num 1 16777216, num 1 16777216, num 1 16777216, num 1 16777216) F ; t() T } "
          "T = send A -> B { t() T }")


class Widths(unittest.TestCase):
    def test_totals(self):
        told = {1: 0, 2: 1, 255: 1, 256: 1, 257: 2, 65535: 2, 65536: 2, 65537: 3, 16777216: 3, 16777217: 4,
                1000000000: 4}
        for many, wide in told.items():
            self.assertEqual(on(numbers_up_to(many), total(0, 1), width(0, 1)), [[many], [wide]])

    def test_document(self):
        self.assertEqual(on(PLAIN, width(0, 0), width(0, 1), width(0, 2), width(1, 0)), [[0], [2], [2], [0]])

    def test_one_course(self):
        self.assertEqual(on(PART, *[width(3, n) for n in [0, 1, 2, 64]]), [[0]] * 4)

    def test_powers_of_256(self):
        for n in [1, 2, 3, 17, 34]:
            self.assertEqual(on(POWERS, total(0, n), width(0, n), total(1, n), width(1, n)),
                             [[256 ** (12 * n)], [12 * n], [256 ** (12 * n) + 1], [12 * n + 1]])

    def test_texts_of_one_byte_more_and_more(self):
        for longest in [0, 1, 2, 3, 100, 255]:
            part = f"part P of A start S S = send A -> B {{ m(text {longest}) S }}"
            self.assertEqual(on(part, width(0, 1)), [[longest + 1 if longest else 0]])
            self.assertTrue(256 ** longest < texts(longest) <= 256 ** (longest + 1) or longest == 0)

    def test_greatest_totals(self):
        self.assertEqual(on(chain(False), total(0, 51), width(0, 51)), [[LIMIT - 1], [416]])
        self.assertTrue(256 ** 415 < LIMIT - 1 <= 256 ** 416)
        self.assertEqual(on(chain(True), width(0, 51)), [[-3]])

    def test_no_fewer_bytes_can_tell_all_courses(self):
        source = random.Random(18)
        for _ in range(30):
            part = model.some_part(source, 5, 5)
            text = model.part_text(part)
            for i in range(len(part[3])):
                for n in [0, 1, 2, 5, 64]:
                    many, wide = on(text, total(i, n), width(i, n))
                    if many == [0]:
                        self.assertEqual(wide, [-6])
                    else:
                        self.assertGreaterEqual(256 ** wide[0], many[0])
                        self.assertTrue(wide == [0] or 256 ** (wide[0] - 1) < many[0])

    def test_refusals(self):
        self.assertEqual(run(width(0, 0), width(-1, 65), load("<"), width(0, 1)), [[-1], [-1], [0, 2, 0], [-1]])
        for i, n in [(-1, 0), (4, 1), (FAR, 65), (-FAR, -1), (0, -1), (0, 65), (1, 65), (2, 65), (0, FAR), (0, -FAR)]:
            self.assertEqual(on(PART, width(i, n)), [[-2]], (i, n))
        self.assertEqual(on(PART, width(1, 1), width(1, 64), width(1, 0)), [[-3], [-3], [0]])
        self.assertEqual(on(PART, width(2, 1), width(2, 64), width(2, 0)), [[-6], [-6], [0]])


class Packed(unittest.TestCase):
    def test_document(self):
        self.assertEqual(on(PLAIN, pack(0, 'a("");'), pack(0, 'a("b");'), pack(0, "m(0, false);"), pack(0, "m(1, false);"),
                            pack(0, 'm(1, false); a("");'), pack(0, ""), pack(1, "")),
                         [[2, 0, 0], [2, 0, 99], [2, 1, 1], [2, 1, 3], [2, 2, 42], [0], [0]])
        self.assertEqual(on(PLAIN, unpack(0, 1, [0, 0]), unpack(0, 1, [0, 99]), unpack(0, 1, [1, 1]),
                            unpack(0, 2, [2, 42]), unpack(0, 0, []), unpack(1, 0, [])),
                         [row('a("") ;\n'), row('a("b") ;\n'), row("m(0, false) ;\n"), row('m(1, false) ;\na("") ;\n'),
                          [0], [0]])

    def test_edges_of_a_width(self):
        for many, last in [(2, [1]), (255, [254]), (256, [255]), (257, [1, 0]), (65536, [255, 255]), (65537, [1, 0, 0])]:
            part = numbers_up_to(many)
            told = on(part, pack(0, f"m({many});"), pack(0, "m(1);"), unpack(0, 1, last))
            self.assertEqual(told, [row(last), row([0] * len(last)), row(f"m({many}) ;\n")])

    def test_every_course_of_small_parts(self):
        source = random.Random(19)
        parts = [model.some_part(source) for _ in range(40)]
        parts.append(("P", "A", "S", [("S", "send", ("A", "B"), [
            ("t", [("text", 1)], ["K"], "T"), ("s", [("flag",)], [], "S")]), ("T", "stop", (), [])]))
        for part in parts:
            text = model.part_text(part)
            for i, state in enumerate(part[3]):
                for n in range(4):
                    courses = [model.course_text(c) for c in model.in_order(part, state[0], n)]
                    if 0 < len(courses) <= 700:
                        self.there_and_back(text, i, n, courses)

    def there_and_back(self, text, i, n, courses):
        wide = on(text, width(i, n))[0][0]
        packed = many_on(text, [pack(i, c) for c in courses])
        self.assertEqual(packed, [row(r.to_bytes(wide, "big")) for r in range(len(courses))])
        self.assertEqual(many_on(text, [unpack(i, n, p[1:]) for p in packed]), [row(c) for c in courses])
        for wrong in {len(courses), 256 ** wide - 1}:
            if len(courses) <= wrong < 256 ** wide:
                self.assertEqual(on(text, unpack(i, n, wrong.to_bytes(wide, "big"))), [[-6]])

    def test_written_otherwise(self):
        self.assertEqual(on(PLAIN, pack(0, '# one\n a ( "\\x62" )\n;')), [[2, 0, 99]])

    def test_great_totals(self):
        source = random.Random(20)
        wide = 416
        for r in [0, 1, 255, 256, LIMIT - 2] + [source.randrange(LIMIT - 1) >> source.randrange(3300) for _ in range(20)]:
            text = words_of(on(chain(False), course(0, 51, r))[0])
            packed = list(r.to_bytes(wide, "big"))
            self.assertEqual(on(chain(False), pack(0, text), unpack(0, 51, packed)), [row(packed), row(text)])
        for r in [LIMIT - 1, LIMIT, 256 ** wide - 1]:
            self.assertEqual(on(chain(False), unpack(0, 51, r.to_bytes(wide, "big"))), [[-6]])
        for n in [1, 34]:
            self.assertEqual(on(POWERS, pack(0, "f(16777216, 16777216, 16777216, 16777216);" * n),
                                pack(0, "f(1, 1, 1, 1);" * n), pack(1, "t();" * n)),
                             [row([255] * 12 * n), row([0] * 12 * n), row([1] + [0] * 12 * n)])
            self.assertEqual(on(POWERS, unpack(1, n, [1] + [0] * 12 * n), unpack(1, n, [1] + [0] * (12 * n - 1) + [1])),
                             [row("t() ;\n" * n), [-6]])

    def test_long_courses(self):
        source = random.Random(21)
        want = texts(20) * 9
        for n in [1, 3, 20, 37]:
            many, wide = on(BUYING, total(0, n), width(0, n))
            self.assertGreaterEqual(many[0], want)
            for _ in range(5):
                r = source.randrange(many[0])
                packed = list(r.to_bytes(wide[0], "big"))
                told = on(BUYING, unpack(0, n, packed), course(0, n, r))
                self.assertEqual(told[0], told[1])
                if told[0][0] <= 4096:
                    text = words_of(told[0])
                    self.assertEqual(on(BUYING, pack(0, text), rank(0, text), later(0, 0, text)),
                                     [row(packed), [r], told[0]])


class NotPacked(unittest.TestCase):
    def test_too_few_and_too_many_bytes(self):
        for packed in [[], [0], [99], [0, 0, 0], [0, 0, 99], [0] * 8192, [255] * 100]:
            self.assertEqual(on(PLAIN, unpack(0, 1, packed))[0], [-7], packed)
            self.assertEqual(on(PLAIN, unpack(0, 2, packed))[0], [-7], packed)
        self.assertEqual(on(PART, unpack(0, 1, []), unpack(0, 1, [0, 5]), unpack(0, 1, [5])), [[-7], [-7], row("m(5) ;\n")])

    def test_no_rank(self):
        for packed in [[1, 21], [1, 22], [2, 0], [255, 255]]:
            self.assertEqual(on(PLAIN, unpack(0, 1, packed)), [[-6]])
        self.assertEqual(on(PLAIN, unpack(0, 1, [1, 20])), [row("m(9, true) ;\n")])
        self.assertEqual(on(PART, unpack(0, 1, [10]), unpack(0, 1, [11]), unpack(0, 1, [255])),
                         [row("u() ;\n"), [-6], [-6]])

    def test_zeros_in_front(self):
        self.assertEqual(on(PLAIN, unpack(0, 1, [0, 1])), [row('a("\\x00") ;\n')])
        self.assertEqual(on(PLAIN, unpack(0, 1, [0, 0, 1]), unpack(0, 1, [1])), [[-7], [-7]])

    def test_a_total_of_1(self):
        for n in [0, 1, 2, 64]:
            self.assertEqual(on(PART, unpack(3, n, []), unpack(3, n, [0]), unpack(3, n, [0, 0]), pack(3, "v();" * n)),
                             [row("v() ;\n" * n), [-7], [-7], [0]])
        self.assertEqual(on(PART, unpack(2, 0, []), unpack(2, 0, [0]), pack(2, "")), [[0], [-7], [0]])

    def test_a_total_of_0(self):
        for n in [1, 2, 64]:
            self.assertEqual(on(PART, unpack(2, n, []), unpack(2, n, [0]), unpack(2, n, [1, 2])), [[-6], [-7], [-7]])

    def test_refusals_of_unpack(self):
        calls = [unpack(0, 1, [5]), unpack(-1, 65, []), unpack(0, 0, [])]
        self.assertEqual(run(*calls, load("<"), *calls), [[-1]] * 3 + [[0, 2, 0]] + [[-1]] * 3)
        for i, n in [(-1, 0), (4, 1), (FAR, 65), (-FAR, -1), (0, -1), (0, 65), (1, 65), (2, 65), (0, FAR), (0, -FAR)]:
            self.assertEqual(on(PART, unpack(i, n, []), unpack(i, n, [0]), unpack(i, n, [9] * 500)), [[-2]] * 3, (i, n))
        for n in [1, 2, 64]:
            self.assertEqual(on(PART, unpack(1, n, []), unpack(1, n, [0]), unpack(1, n, [0] * 511)), [[-3]] * 3)
        self.assertEqual(on(chain(True), unpack(0, 51, [0] * 416), unpack(0, 51, [])), [[-3], [-3]])

    def test_refusals_of_pack(self):
        calls = [pack(0, ""), pack(-1, "<"), pack(0, "m(10);")]
        self.assertEqual(run(*calls, load("<"), *calls), [[-1]] * 3 + [[0, 2, 0]] + [[-1]] * 3)
        for i in [-FAR, -4, -1, 4, FAR]:
            for text in ["", "<", "m(0);", "m(10);"]:
                self.assertEqual(on(PART, pack(i, text)), [[-2]], (i, text))
        for text in ["<", "m(0)", "m(0);" * 65, "# " + "x" * 4095, "m(1,2,3,4,5);"]:
            self.assertEqual(on(PART, *[pack(i, text) for i in range(4)]), [[-4]] * 4, text)
        for i, text in [(0, "m(10);"), (0, "n();"), (0, "u(); m(0);"), (2, "u();"), (1, "w(true); w(true);"), (1, "w();")]:
            self.assertEqual(on(PART, pack(i, text)), [[-5]], text)
        self.assertEqual(on(PART, pack(1, "w(true);"), pack(1, 't("", "");'), pack(1, "")), [[-3], [-3], [0]])
        self.assertEqual(on(chain(True), pack(0, "b();" * 50 + "t();")), [[-3]])


if __name__ == "__main__":
    unittest.main()
