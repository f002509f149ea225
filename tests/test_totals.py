import random
import unittest

from tests import model
from tests.calling import BUYING, LIMIT, PLAIN, course, later, many_on, on, rank, row, size, total, words_of


def texts(longest):
    return sum(256 ** k for k in range(longest + 1))


# A chain of 50 states. At the first, the total of 51 is 10 ** 1000 - 1, and 10 ** 1000 with one course more at the
# chain's end: behind each state either a message of F (10 ** 20 - 1 of them) and then 10 ** 20 for each message left,
# or the next state of the chain.
def chain(one_more):
    states = [f"d{k} = send A -> B {{ a() F ; b() d{k - 1} }}\n" for k in range(50, 1, -1)]
    states.append("d1 = send A -> B { a() F" + (" ; b() T" if one_more else "") + " }\n")
    states.append("F = send A -> B { f(num 1 99999, num 1 100001, num 1 357641, num 1 27961) E }\n")
    states.append("E = send A -> B { e(num 1 1000000000, num 1 1000000000, num 1 100) E }\n")
    states.append("T = send A -> B { t() T }\n")
    return "part P of A\nstart d50\n" + "".join(states)


class Sizes(unittest.TestCase):
    def test_ranges(self):
        part = ("part P of A start S S = send A -> B { a() S ; b(flag) S ; c(num 3 3) S ; d(num -5 5) S ; e(text 0) S ; "
                "f(text 1) S ; g(text 255) S ; h(flag, num 1 3, text 2, flag) S ; i(num -1000000000 1000000000) S }")
        many = [1, 2, 1, 11, 1, 257, texts(255), 2 * 3 * texts(2) * 2, 2000000001]
        self.assertEqual(on(part, *[size(0, j) for j in range(9)]), [[k] for k in many])

    def test_counted_as_written(self):
        self.assertEqual(on(PLAIN, size(0, 0), size(0, 1)), [[20], [257]])
        self.assertEqual(on(BUYING, size(0, 0), size(0, 1), size(1, 0), size(1, 1)), [[texts(20) * 9], [1], [501], [1]])

    def test_at_the_limit(self):
        two = texts(255) * texts(157)
        most = (LIMIT - 1) // two
        self.assertTrue(1 < most < 1000000000)
        for many, answer in [(most, [two * most]), (most + 1, [-3])]:
            part = f"part P of A start S S = send A -> B {{ a(text 255, text 157, num 1 {many}) S }}"
            self.assertEqual(on(part, size(0, 0), total(0, 1)), [answer, answer])


class Totals(unittest.TestCase):
    def test_document(self):
        self.assertEqual(on(PLAIN, total(0, 0), total(0, 1), total(0, 2)), [[1], [277], [5540]])
        self.assertEqual(on(PLAIN, total(1, 0), total(1, 1), total(1, 64)), [[1], [0], [0]])

    def test_add_up(self):
        source = random.Random(4)
        for _ in range(30):
            part = model.some_part(source, 5, 5)
            numbers = {state[0]: i for i, state in enumerate(part[3])}
            asked = [size(i, j) for i, state in enumerate(part[3]) for j in range(len(state[3]))]
            asked += [total(i, n) for i in range(len(numbers)) for n in range(65)]
            told = iter(answer[0] for answer in many_on(model.part_text(part), asked))
            sizes = [[next(told) for branch in state[3]] for state in part[3]]
            totals = [[next(told) for n in range(65)] for state in part[3]]
            for i, state in enumerate(part[3]):
                self.assertEqual(totals[i][0], 1)
                for n in range(64):
                    self.assertEqual(totals[i][n + 1], sum(
                        many * totals[numbers[branch[3]]][n] for many, branch in zip(sizes[i], state[3])))

    def test_as_many_as_are_counted_out(self):
        source = random.Random(5)
        for _ in range(30):
            part = model.some_part(source)
            for i, state in enumerate(part[3]):
                for n in range(3):
                    self.assertEqual(on(model.part_text(part), total(i, n)),
                                     [[len(model.courses_from(part, state[0], n))]])

    def test_asked_in_any_order(self):
        answers = on(PLAIN, total(0, 9), total(0, 3), total(0, 64), total(0, 9), total(0, 1))
        self.assertEqual(answers, [[20 ** (n - 1) * 277] for n in [9, 3, 64, 9, 1]])


class Limit(unittest.TestCase):
    def test_just_below(self):
        told = on(chain(False), total(0, 51), course(0, 51, 0), course(0, 51, 10 ** 1000 - 2), course(0, 51, 10 ** 1000 - 1))
        self.assertEqual(told[0], [LIMIT - 1])
        least = words_of(told[1])
        greatest = words_of(told[2])
        self.assertEqual(least, "a() ;\nf(1, 1, 1, 1) ;\n" + "e(1, 1, 1) ;\n" * 49)
        self.assertEqual(greatest, "b() ;\n" * 49 + "a() ;\nf(99999, 100001, 357641, 27961) ;\n")
        self.assertEqual(told[3], [-6])
        self.assertEqual(on(chain(False), rank(0, least), rank(0, greatest)), [[0], [LIMIT - 2]])
        self.assertEqual(on(chain(False), later(0, LIMIT - 2, least), later(0, 2 - LIMIT, greatest),
                            later(0, LIMIT - 1, least), later(0, 1 - LIMIT, greatest), later(0, 1, greatest)),
                         [row(greatest), row(least), [-6], [-6], [-6]])

    def test_in_the_middle(self):
        source = random.Random(6)
        for _ in range(20):
            r = source.randrange(LIMIT - 1) >> source.randrange(3300)
            text = words_of(on(chain(False), course(0, 51, r))[0])
            self.assertEqual(on(chain(False), rank(0, text)), [[r]])

    def test_at_it(self):
        least = "a() ;\nf(1, 1, 1, 1) ;\n" + "e(1, 1, 1) ;\n" * 49
        self.assertEqual(on(chain(True), total(0, 51), course(0, 51, 0), course(0, 51, LIMIT), rank(0, least),
                            later(0, 0, least), later(0, -1, least)), [[-3]] * 6)
        self.assertEqual(on(chain(True), total(1, 50), total(0, 50)), [[10 ** 980], [10 ** 980 + 1]])

    def test_at_a_power_of_ten(self):
        part = "part P of A start E E = send A -> B { e(num 1 1000000000, num 1 1000000000, num 1 100) E }"
        self.assertEqual(on(part, total(0, 49), total(0, 50), total(0, 51), total(0, 64)), [[10 ** 980], [-3], [-3], [-3]])
        part = "part P of A start E E = send A -> B { e(num 1 1000000000, num 1 1000000000, num 1 99) E }"
        self.assertEqual(on(part, total(0, 50), total(0, 51)), [[(99 * 10 ** 18) ** 50], [-3]])


if __name__ == "__main__":
    unittest.main()
