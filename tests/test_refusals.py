import unittest

from tests.calling import (PLAIN, compare, course, goes, later, load, on, pack, rank, row, run, share, shown, size,
                           total, unpack, width)

# At S any number of messages, of T the totals pass the limit from 2 messages on, U is a stop.
PART = ("part P of A start S S = send A -> B { m(num 0 9) S ; u() U } "
        "T = recv A <- B { t(text 255, text 100) T ; v(text 255, text 255) U ; w(flag) T } U = stop")
LONG = "# " + "x" * 4096
FAR = 10 ** 18


class NoPart(unittest.TestCase):
    def test_before_all_else(self):
        calls = [shown(), size(0, 0), size(-1, -1), size(FAR, -FAR), total(0, 0), total(-1, 65), rank(0, ""),
                 rank(-1, ""), rank(0, "<"), rank(9, LONG), course(0, 0, 0), course(-5, 65, -1), later(0, 0, ""),
                 later(-1, 1, "<"), compare(0, "", ""), compare(-1, "<", "<"), share(0, 1, 0), share(-1, 65, -1),
                 width(0, 0), width(-1, 65), pack(0, ""), pack(-1, LONG), unpack(0, 0, []), unpack(-1, 65, [0]),
                 goes(0, ""), goes(-1, "<")]
        self.assertEqual(run(*calls), [[-1]] * len(calls))

    def test_a_load_that_fails_holds_none(self):
        self.assertEqual(run(load("part"), shown(), total(0, 0), goes(0, "")), [[0, 3, 4], [-1], [-1], [-1]])


class Loads(unittest.TestCase):
    def test_a_load_that_fails_leaves_the_object_as_it_was(self):
        before = [shown(), total(0, 2), size(0, 0), rank(0, 'a("b");'), course(0, 1, 257), share(0, 1, 1), width(0, 2),
                  pack(0, 'a("b");'), unpack(0, 1, [1, 1]), goes(0, 'a("b");'), compare(0, 'a("b");', "m(0, true);")]
        many = len(before)
        for wrong in ["", "part", LONG, "<", PLAIN + "=", PLAIN.replace(" T }", " X }"), PLAIN + " S = stop"]:
            told = run(load(PLAIN), *before, load(wrong), *before)
            self.assertEqual(told[many + 1][0], 0)
            self.assertEqual(len(told[many + 1]), 3)
            self.assertEqual(told[1:many + 1], told[many + 2:])
            self.assertTrue(all(answer[0] > 0 for answer in told[1:many + 1]))

    def test_a_second_load_takes_the_first_ones_place(self):
        other = "part Q of A\nstart S\nS = stop\nT = send A -> B { b(flag) T }\n"
        calls = [shown(), size(1, 0), total(0, 1), total(1, 3), rank(1, "b(true);"), course(1, 2, 2)]
        self.assertEqual(run(load(PLAIN), total(0, 3), load(other), *calls), [[1], [277 * 400], [1], *on(other, *calls)])
        self.assertEqual(on(other, *calls), [row(other), [2], [0], [8], [1], row("b(true) ;\nb(false) ;\n")])
        self.assertEqual(run(load(PLAIN), load(other), rank(0, 'a("b");')), [[1], [1], [-5]])


class States(unittest.TestCase):
    def test_no_such_state(self):
        for i in [-FAR, -3, -2, -1, 3, 4, 64, FAR]:
            calls = [size(i, 0), size(i, 99), total(i, 0), total(i, 65), rank(i, ""), rank(i, "m(0);"), rank(i, "<"),
                     rank(i, LONG), course(i, 0, 0), course(i, -1, -1), later(i, 0, ""), later(i, 1, "<")]
            self.assertEqual(on(PART, *calls), [[-2]] * len(calls), i)

    def test_states_that_are_there(self):
        for i in [0, 1, 2]:
            self.assertEqual(on(PART, total(i, 0), rank(i, ""), course(i, 0, 0), later(i, 0, "")), [[1], [0], [0], [0]])

    def test_no_such_branch(self):
        for i, j in [(0, 2), (0, -1), (0, -2), (0, FAR), (0, -FAR), (1, 3), (1, -3), (2, 0), (2, -1), (2, 1)]:
            self.assertEqual(on(PART, size(i, j)), [[-2]], (i, j))


class Numbers(unittest.TestCase):
    def test_n(self):
        for n in [-FAR, -1, 65, 66, FAR]:
            for i in [0, 1, 2]:
                self.assertEqual(on(PART, total(i, n), course(i, n, 0), course(i, n, -1)), [[-2]] * 3, n)
        # U ends a course, so all but the last messages are of m.
        self.assertEqual(on(PART, total(0, 64), course(0, 64, -1)), [[10 ** 63 * 11], [-6]])
        self.assertEqual(on(PART, total(0, 0), course(0, 0, 0), course(0, 0, 1), course(0, 0, -1)),
                         [[1], [0], [-6], [-6]])

    def test_too_great(self):
        for n in [2, 3, 64]:
            self.assertEqual(on(PART, total(1, n), course(1, n, 0), course(1, n, -1)), [[-3]] * 3, n)
        self.assertEqual(on(PART, size(1, 1)), [[-3]])
        self.assertGreater(on(PART, size(1, 0))[0][0], 0)

    def test_nothing_that_leads_to_a_stop_counts(self):
        # v has more messages than the limit, but none of its courses is longer than one message.
        part = ("part P of A start S S = send A -> B { v(text 255, text 255) U ; w(flag) S } U = stop")
        self.assertEqual(on(part, total(0, 1), size(0, 0), size(0, 1)), [[-3], [-3], [2]])
        part = ("part P of A start R R = send A -> B { r() S } "
                "S = send A -> B { v(text 255, text 255) U ; w(flag) S } U = stop")
        self.assertEqual(on(part, total(0, 1), total(0, 2), total(2, 1), total(2, 2)), [[1], [-3], [0], [0]])
        # From 2 messages on, v counts no more at Q, as each goal of it is a stop.
        part = "part P of A start Q Q = send A -> B { v(text 255, text 255) U ; w(flag) W } W = send A -> B { x() W } U = stop"
        self.assertEqual(on(part, total(0, 1), total(0, 2), total(0, 64), rank(0, "w(true);x();"), course(0, 3, 1)),
                         [[-3], [2], [2], [1], row("w(true) ;\nx() ;\nx() ;\n")])


class Courses(unittest.TestCase):
    def refused(self, code, i, text):
        self.assertEqual(on(PART, rank(i, text), later(i, 0, text), later(i, -1, text)), [[code]] * 3, text)

    def test_no_course(self):
        for text in ["<", LONG, "m(0)", "m(0); <", "m();;", "m(0);" * 65, "zz(1,2,3,4,5);"]:
            for i in [0, 1, 2]:
                self.refused(-4, i, text)

    def test_it_does_not_go(self):
        for text in ["n();", "m(10);", "m(-1);", "m(true);", "m();", "m(0)[K];", "u(); u();", "m(1);" * 63 + "v();"]:
            self.refused(-5, 0, text)
        self.refused(-5, 2, "m(0);")

    def test_too_great(self):
        self.refused(-3, 1, "w(true); w(false);")
        self.refused(-3, 1, 't("", "");')
        self.refused(-3, 1, 'v("", "");')

    def test_order(self):
        # What is no course and what does not go are told even where the total is too great.
        self.refused(-4, 1, "w(true); w(false)")
        self.refused(-5, 1, "w(true); w(0);")
        self.refused(-5, 1, 'v("", ""); w(true);')
        self.refused(-4, 1, "w(0); w(true)")

    def test_no_such_rank(self):
        for n, many in [(0, 1), (1, 11), (2, 110)]:
            for r in [-2 ** 120, -FAR, -2, -1, many, many + 1, FAR, 2 ** 120, 10 ** 1001, -10 ** 1001]:
                self.assertEqual(on(PART, course(0, n, r)), [[-6]], (n, r))
        for r in [-1, 0, 1]:
            self.assertEqual(on(PART, course(2, 1, r), course(2, 64, r)), [[-6], [-6]])

    def test_nothing_so_much_later(self):
        first, last = "m(0); m(0);", "m(9); u();"
        self.assertEqual(on(PART, rank(0, first), rank(0, last)), [[0], [109]])
        for k in [-1, -2, 110, 111, 2 ** 120, -2 ** 120, 10 ** 1001, -10 ** 1001]:
            self.assertEqual(on(PART, later(0, k, first)), [[-6]], k)
        for k in [1, 2, -110, -111, 2 ** 120, -2 ** 120]:
            self.assertEqual(on(PART, later(0, k, last)), [[-6]], k)
        self.assertEqual(on(PART, later(0, 109, first), later(0, -109, last)),
                         [row("m(9) ;\nu() ;\n"), row("m(0) ;\nm(0) ;\n")])
        self.assertEqual(on(PART, later(2, 1, ""), later(2, -1, "")), [[-6], [-6]])


if __name__ == "__main__":
    unittest.main()
