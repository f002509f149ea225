"""How many courses there are."""

LIMIT_ZEROS = 1000


# 1 followed by 1000 zeros: what is as great or greater is not told.
def limit_of_totals():
    limit = 1
    for zero in range(LIMIT_ZEROS):
        limit *= 10
    return limit


# The totals of 0, 1, 2 .. messages stand in rows, one number a state.
# A total that passes the limit stands as the limit, so that numbers stay small; this changes
# no total below the limit, since every branch has at least one message.
class Counts:
    def __init__(self, part):
        self.part = part
        self.limit = limit_of_totals()
        self.rows = [[1 for state in part.states]]

    def total(self, number, length):
        while len(self.rows) <= length:
            last = self.rows[len(self.rows) - 1]
            self.rows.append([self.total_behind(state, last) for state in self.part.states])
        return self.rows[length][number]

    def total_behind(self, state, last):
        total = 0
        for branch in state.branches:
            total += branch.many * last[branch.goal]
        return min(total, self.limit)

    # How many courses begin with a message of the branch and have so many messages behind it.
    def courses_by(self, branch, left):
        return branch.many * self.total(branch.goal, left)
