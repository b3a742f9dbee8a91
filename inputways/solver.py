"""A search for a filling that keeps clauses, or for a refutation of them.

The search chooses items and gives all that follows. Where all items of a clause get false, it learns a
clause that follows by units from those that are there, and goes back. The learnt clauses are a refutation.
"""

from inputways.order import Order
from inputways.units import FALSE, TRUE, Row, Units, variables_of

# A learnt clause whose items got false by so few different choices is never dropped.
FEW_CHOICES = 3
# When there are so many others, half of them are dropped; then more are waited for. One choice more is as
# bad as not to have been used since so many clauses were learnt.
FIRST_PATIENCE = 3000
MORE_PATIENCE = 500
CHOICE_WORTH = 400
# All choices are taken back where the last learnt clauses were worse than those of a long time; but only
# in every other part of the search, of which each is twice as long as the one ahead: some clauses are
# refuted sooner with such breaks, others without.
LAST_PARTS = 32
LONG_PARTS = 4096
LEAST_PAUSE = 24
FIRST_PART = 1024


def solve(clauses):
    """Return ("yes", a filling that keeps all clauses), or ("no", a refutation of them)."""
    return Search(variables_of(clauses), clauses).answer()


def solve_soon(clauses, most):
    """Return the same, or None if it was not found by learning so many clauses."""
    search = Search(variables_of(clauses), clauses)
    search.most_learnt = most
    return search.answer()


class Search(Units):
    """The state of a search."""

    def __init__(self, variables, clauses):
        super().__init__(variables)
        count = len(variables)
        self.order = Order(count)
        # For each variable the item that was true when it was known last.
        self.wishes = [2 * k + 1 for k in range(count)]
        # For each choice the number of items that were known ahead of it.
        self.limits = []
        # The learnt clauses, and for each of them the numbers of those that it was made of.
        self.learnt = []
        self.sources = []
        # In the clause that is being learnt: the variables that were looked at, and its sources.
        self.seen = [False] * count
        self.touched = []
        self.used = []
        # How many learnt clauses may be dropped, and how many of them are too many.
        self.passing = 0
        self.patience = FIRST_PATIENCE
        self.pause = 0
        self.last_worth = 0
        self.long_worth = 0
        # How many clauses may be learnt; None for as many as are needed.
        self.most_learnt = None
        for clause in clauses:
            self.enter([self.numbers[x] for x in clause])
        if self.broken or self.spread() is not None:
            self.broken = True
        else:
            self.load_again()

    def answer(self):
        """Return what has been found when the search is over, or None where more would have to be learnt."""
        while not self.broken:
            row = self.spread()
            if row is None:
                self.restart_if_due()
                if not self.choose():
                    return ("yes", self.filling())
            elif self.level == 0:
                return ("no", self.refutation(row))
            elif len(self.learnt) == self.most_learnt:
                return None
            else:
                self.learn(row)
        return ("no", self.refutation(None))

    def filling(self):
        """Return the filling that has been found."""
        return tuple([v if self.state[self.numbers[v]] == TRUE else -v for v in self.variables])

    def refutation(self, row):
        """Return the learnt clauses that are needed to see that all items of a clause are false without a choice.

        The clause is None where it is one that has just been entered.
        """
        needed = [False] * len(self.learnt)
        todo = [row] + [self.causes[x >> 1] for x in self.trail]
        todo = [cause.number for cause in todo if cause is not None and cause.number is not None]
        while len(todo) > 0:
            number = todo.pop()
            if not needed[number]:
                needed[number] = True
                todo.extend(self.sources[number])
        return tuple([clause for clause, is_needed in zip(self.learnt, needed) if is_needed]) + ((),)

    def choose(self):
        """Choose an item that is open, and tell whether there was one."""
        x = self.next_choice()
        return x is not None and self.decide(x)

    def decide(self, x):
        """Choose an item, and tell that this was done."""
        self.limits.append(len(self.trail))
        self.level += 1
        self.give(x, None)
        return True

    def next_choice(self):
        """Return the item that is chosen next, or None if none is open."""
        k = self.order.first_open(self.state)
        return None if k is None else self.wishes[k]

    def restart_if_due(self):
        """Take all choices back if it is time for that."""
        if self.passing >= self.patience or self.is_break_due():
            self.restart()

    def is_break_due(self):
        """Tell whether all choices are to be taken back for a new beginning."""
        if self.pause < LEAST_PAUSE or self.last_worth * 10 <= self.long_worth * 11:
            return False
        part = (len(self.learnt) // FIRST_PART).bit_length()
        return part & 1 == 0

    def restart(self):
        """Take all choices back, and drop learnt clauses where there are too many."""
        self.pause = 0
        self.last_worth = self.long_worth
        self.go_back(0)
        if self.passing >= self.patience:
            self.patience += MORE_PATIENCE
            self.drop_half()
            self.load_again()

    def drop_half(self):
        """Drop half of the learnt clauses that may be dropped."""
        rows = [row for row in self.rows if row.choices > FEW_CHOICES]
        rows = sorted(rows, key=keeping_key)
        self.passing = len(rows) // 2
        for row in rows[self.passing:]:
            row.dropped = True

    def load_again(self):
        """Let all clauses wait anew, without those that are dropped and without what is known."""
        rows = self.rows
        self.rows = []
        self.waiting = [[] for _ in self.state]
        self.pairs = [[] for _ in self.state]
        for row in rows:
            if not row.dropped and not any([self.state[x] == TRUE for x in row.parts]):
                row.parts = [x for x in row.parts if self.state[x] != FALSE]
                self.attach(row)

    def go_back(self, level):
        """Take back all choices behind the first so many."""
        if level < self.level:
            count = self.limits[level]
            for x in self.trail[count:]:
                self.wishes[x >> 1] = x
                self.order.opened(x >> 1)
            self.take_back(count)
            del self.limits[level:]
            self.level = level

    def learn(self, row):
        """Learn a clause from one whose items are all false, and go back to where it gives an item."""
        items = self.reasons(row)
        self.order.renew(self.touched)
        places = {self.levels[x >> 1]: True for x in items}
        rest = [x for x in items[1:] if not self.is_needless(x, places)]
        for k in self.touched:
            self.seen[k] = False
        # The item behind the first one is open again only where all others but the first one are false.
        rest = sorted(rest, key=lambda x: -self.levels[x >> 1])
        made = Row(items[:1] + rest)
        made.number = len(self.learnt)
        made.last_use = made.number
        made.choices = len({self.levels[x >> 1] for x in made.parts})
        self.note(made)
        if len(rest) == 0:
            self.go_back(0)
        else:
            self.go_back(self.levels[rest[0] >> 1])
            self.attach(made)
        self.give(items[0], made)

    def note(self, made):
        """Keep a learnt clause and its sources, and take note of what it is worth."""
        clause = [-self.variables[x >> 1] if x & 1 else self.variables[x >> 1] for x in made.parts]
        self.learnt.append(tuple(sorted(clause, key=abs)))
        self.sources.append(self.used)
        self.touched = []
        self.used = []
        self.pause += 1
        if made.choices > FEW_CHOICES:
            self.passing += 1
        worth = made.choices << 20
        self.last_worth += (worth - self.last_worth) // LAST_PARTS
        self.long_worth += (worth - self.long_worth) // min(LONG_PARTS, len(self.learnt))

    def reasons(self, row):
        """Return the items of a clause that follows, all false now, but only one since the last choice: the first."""
        items = []
        count = 0
        place = len(self.trail)
        while True:
            if row.number is not None:
                self.used.append(row.number)
                row.last_use = len(self.learnt)
            for x in row.parts:
                k = x >> 1
                if not self.seen[k] and self.levels[k] > 0:
                    self.seen[k] = True
                    self.touched.append(k)
                    if self.levels[k] == self.level:
                        count += 1
                    else:
                        items.append(x)
            place -= 1
            while not self.seen[self.trail[place] >> 1]:
                place -= 1
            count -= 1
            if count == 0:
                return [self.trail[place] ^ 1] + items
            row = self.causes[self.trail[place] >> 1]

    def is_needless(self, x, places):
        """Tell whether an item is false because of other ones that were seen alone.

        This cannot be so where it leads back to a choice behind which none of them is: places has the others.
        """
        if self.causes[x >> 1] is None:
            return False
        todo = [x >> 1]
        found = []
        used = []
        while len(todo) > 0:
            row = self.causes[todo.pop()]
            if row.number is not None:
                used.append(row.number)
            for y in row.parts:
                k = y >> 1
                if self.seen[k] or self.levels[k] == 0:
                    continue
                if self.causes[k] is None or self.levels[k] not in places:
                    for m in found:
                        self.seen[m] = False
                    return False
                self.seen[k] = True
                found.append(k)
                todo.append(k)
        self.touched.extend(found)
        self.used.extend(used)
        return True


def keeping_key(row):
    """Return by what learnt clauses are sorted: those to keep come first."""
    return row.choices * CHOICE_WORTH - row.last_use
