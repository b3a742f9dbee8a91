"""Searches that look at one part after the other of a literal that is 1 where one of its parts is.

Of what a part is made of, only what no earlier one is made of has to be looked at anew. So a search that comes to
an early part does not meet the rest, and what it has learnt holds for the later ones, too.
"""

from inputways.pool import NO, YES, signed
from inputways.solver import Search
from inputways.units import FALSE, OPEN, TRUE


def solve_any(pool, literal, parts):
    """Return ("yes", dict of names that are 1) for bits for which a literal is 1, or ("no", a refutation).

    The literal is 1 where one of its parts is. The refutation is one of its clauses.
    """
    if literal == YES:
        return ("yes", {})
    if literal == NO:
        return ("no", ((),))
    search = CaseSearch(pool, literal, parts)
    answer, found = search.answer()
    return (answer, search.true_names(found) if answer == "yes" else found)


def cases_of(pool, literal, parts, numbers):
    """Return the list of (item, clauses) of the parts of a literal, and at last of (None, clauses) of the rest."""
    seen = {}
    cases = []
    for x in parts:
        if x >> 1 in numbers:
            cases.append((signed(x, numbers), pool.rows_of(pool.cone([x], seen), numbers)))
    rest = pool.rows_of(pool.cone([literal], seen), numbers)
    cases.append((None, rest + [(signed(literal, numbers),)]))
    return cases


class CaseSearch(Search):
    """A search that enters the clauses of a case when the items of all cases ahead of it are known to be false."""

    def __init__(self, pool, literal, parts):
        numbers = pool.numbers_of(literal)
        super().__init__(list(numbers.values()), [])
        self.cases = cases_of(pool, literal, parts, numbers)
        self.names = {name: v for name, v in pool.names_of(numbers)}
        # Whether the clauses with a variable have been entered, and of how many cases they have.
        self.entered = [False] * len(self.variables)
        self.begun = 0
        # The case at which the search is.
        self.place = 0
        # An item that is chosen ahead of the cases, if there is one.
        self.first = None

    def true_names(self, filling):
        """Return the dict from the names that are 1 by a filling to 1."""
        true = {x: True for x in filling}
        return {name: 1 for name in self.names if self.names[name] in true}

    def try_no(self, name):
        """Return the names that are 1 for some bits for which the literal is 1, a name is 0; None if there are none."""
        self.go_back(0)
        self.first = self.numbers[-self.names[name]]
        self.place = 0
        _, found = self.answer()
        return self.true_names(found) if self.state[self.first] == TRUE else None

    def fix(self, name, bit):
        """Let a name have a bit from now on; for some such bits the literal is 1."""
        if name in self.names:
            self.go_back(0)
            self.first = None
            v = self.names[name]
            self.enter([self.numbers[v if bit == 1 else -v]])

    def choose(self):
        """Choose an item that is open, and tell whether there was one; or begin a case, if it is time for that."""
        if self.level == 0 and self.first is not None and self.state[self.first] != TRUE:
            return self.state[self.first] == OPEN and self.decide(self.first)
        while self.is_between_cases():
            if self.place == self.begun:
                self.begin_case()
                return True
            item = self.numbers[self.cases[self.place][0]]
            if self.state[item] == OPEN:
                return self.decide(item)
            if self.state[item] == TRUE:
                break
            self.place += 1
        return super().choose()

    def is_between_cases(self):
        """Tell whether nothing is chosen but the first item, and there are cases."""
        ahead = 1 if self.level > 0 and self.trail[self.limits[0]] == self.first else 0
        if self.level > ahead or self.place == len(self.cases):
            return False
        return self.place == self.begun or self.cases[self.place][0] is not None

    def begin_case(self):
        """Enter the clauses of the next case, and let their variables be chosen first."""
        self.go_back(0)
        more = {}
        for clause in self.cases[self.begun][1]:
            items = [self.numbers[x] for x in clause]
            for x in items:
                if not self.entered[x >> 1]:
                    self.entered[x >> 1] = True
                    more[x >> 1] = True
            self.enter(items)
        self.order.bring(list(more))
        self.begun += 1

    def next_choice(self):
        """Return the item that is chosen next, or None if all that has been entered is known."""
        k = self.order.first_open(self.state)
        return self.wishes[k] if k is not None and self.entered[k] else None
