import random
import unittest

from tests import model
from tests.calling import BUYING, LIMIT, PLAIN, course, load, many_on, on, rank, run, share, size, total
from tests.test_totals import chain, texts

FAR = 10 ** 18
# Of T the totals pass the limit from 1 message on; U is a stop.
PART = ("part P of A start S S = send A -> B { m(num 0 9) S ; u() U ; a(flag) S } "
        "T = recv A <- B { t(text 255, text 255) T ; w(flag) U } U = stop")


class Shares(unittest.TestCase):
    def test_document(self):
        self.assertEqual(on(PLAIN, share(0, 1, 0), share(0, 1, 1), share(0, 2, 0), share(0, 2, 1)),
                         [[20], [257], [5540], [0]])

    def test_counted_as_written(self):
        self.assertEqual(on(PART, share(0, 1, 0), share(0, 1, 1), share(0, 1, 2)), [[10], [1], [2]])
        self.assertEqual(on(PART, share(0, 2, 0), share(0, 2, 1), share(0, 2, 2)), [[130], [0], [26]])
        self.assertEqual(on(BUYING, share(0, 1, 0), share(0, 2, 0), share(0, 2, 1), share(1, 2, 0), share(1, 2, 1)),
                         [[texts(20) * 9], [texts(20) * 9 * 502], [0], [501 * (texts(20) * 9 + 1)], [texts(20) * 9 + 1]])

    def test_of_one_message_it_is_the_size(self):
        for part, branches in [(PLAIN, [(0, 0), (0, 1)]), (BUYING, [(0, 0), (0, 1), (1, 0), (1, 1)])]:
            for i, j in branches:
                self.assertEqual(on(part, share(i, 1, j)), on(part, size(i, j)))

    def test_add_up_to_the_total(self):
        source = random.Random(16)
        for _ in range(40):
            part = model.some_part(source, 5, 5)
            text = model.part_text(part)
            for i, state in enumerate(part[3]):
                if not state[3]:
                    continue
                numbers = [1, 2, 3, 30, 63, 64]
                totals = on(text, *[total(i, n) for n in numbers])
                for n, whole in zip(numbers, totals):
                    shares = on(text, *[share(i, n, j) for j in range(len(state[3]))])
                    self.assertEqual(sum(answer[0] for answer in shares), whole[0])
                    self.assertTrue(all(len(answer) == 1 and answer[0] >= 0 for answer in shares))

    def test_as_many_as_are_counted_out(self):
        source = random.Random(17)
        for _ in range(40):
            part = model.some_part(source)
            asked, counted = [], []
            for i, state in enumerate(part[3]):
                for n in [1, 2, 3]:
                    firsts = [c[0][0] for c in model.courses_from(part, state[0], n)]
                    for j, branch in enumerate(state[3]):
                        asked.append(share(i, n, j))
                        counted.append([firsts.count(branch[0])])
            self.assertEqual(many_on(model.part_text(part), asked), counted)

    def test_ranks_of_a_branch_stand_together(self):
        for n in [1, 2, 3]:
            sizes = [on(PART, share(0, n, j))[0][0] for j in [2, 0, 1]]
            at = 0
            for label, many in zip("amu", sizes):
                told = on(PART, *[course(0, n, r) for r in (at, at + many - 1) if many])
                self.assertEqual({chr(answer[1]) for answer in told}, {label} if many else set())
                at += many
            self.assertEqual(on(PART, total(0, n)), [[at]])

    def test_behind_a_stop_nothing_more_comes(self):
        self.assertEqual(on(PART, *[share(0, n, 1) for n in [1, 2, 3, 64]]), [[1], [0], [0], [0]])

    def test_just_below_the_limit(self):
        told = on(chain(False), share(0, 51, 0), share(0, 51, 1))
        self.assertEqual(told, [[(10 ** 20 - 1) * 10 ** 980], [10 ** 980 - 1]])
        self.assertEqual(told[0][0] + told[1][0], LIMIT - 1)
        self.assertEqual(on(chain(True), share(0, 51, 0), share(0, 51, 1)), [[-3], [-3]])
        self.assertEqual(on(chain(False), rank(0, "b();" * 49 + "a(); f(1, 1, 1, 1);")), [[LIMIT - 1 - (10 ** 20 - 1)]])


class Refusals(unittest.TestCase):
    def refused(self, code, i, n, j):
        self.assertEqual(on(PART, share(i, n, j)), [[code]], (i, n, j))

    def test_no_part(self):
        calls = [share(0, 0, 0), share(-1, 65, -1), share(0, 1, 0)]
        self.assertEqual(run(*calls, load(""), *calls), [[-1]] * 3 + [[0, 3, 0]] + [[-1]] * 3)

    def test_no_such_state(self):
        for i in [-FAR, -3, -1, 3, FAR]:
            for n, j in [(0, 0), (1, 0), (65, 0), (-1, -1), (1, 9)]:
                self.refused(-2, i, n, j)

    def test_no_such_number(self):
        for n in [-FAR, -1, 65, FAR]:
            for i, j in [(0, 0), (1, 0), (2, 0), (0, -1), (0, 9)]:
                self.refused(-2, i, n, j)

    def test_too_great(self):
        for n in [1, 2, 64]:
            for j in [0, 1, 2, -1, FAR]:
                self.refused(-3, 1, n, j)

    def test_no_such_branch(self):
        for n in [0, 1, 2, 64]:
            for j in [-FAR, -3, -2, -1, 3, 4, FAR]:
                self.refused(-2, 0, n, j)
            for j in [-1, 0, 1]:
                self.refused(-2, 2, n, j)
        for j in [-1, 2]:
            self.refused(-2, 1, 0, j)

    def test_no_messages(self):
        for i, j in [(0, 0), (0, 1), (0, 2), (1, 0), (1, 1)]:
            self.refused(-6, i, 0, j)


if __name__ == "__main__":
    unittest.main()
