"""The order in which variables are chosen: first those that were behind the last learnt clauses."""

from inputways.units import OPEN


class Order:
    """A row of variables, linked to each other; the next one to be chosen stands last."""

    def __init__(self, count):
        self.before = [k - 1 for k in range(count)]
        self.behind = [k + 1 for k in range(count)]
        self.stamps = list(range(count))
        self.clock = count
        self.last = count - 1
        # All variables behind this one are known.
        self.spot = count - 1

    def first_open(self, state):
        """Return the last variable in the row that is open, or None."""
        k = self.spot
        while k >= 0 and state[2 * k] != OPEN:
            k = self.before[k]
        self.spot = k
        return k if k >= 0 else None

    def opened(self, k):
        """Take note that a variable is open again."""
        if self.spot < 0 or self.stamps[k] > self.stamps[self.spot]:
            self.spot = k

    def bring(self, variables):
        """Put variables at the end of the row, in the order that they have, whether they are known or not."""
        self.renew(variables)
        self.spot = self.last

    def renew(self, touched):
        """Put variables, which are all known, at the end of the row, in the order that they have."""
        for k in sorted(touched, key=lambda m: self.stamps[m]):
            if k != self.last:
                self.put_last(k)
            self.stamps[k] = self.clock
            self.clock += 1

    def put_last(self, k):
        """Take a variable out of the row and put it at its end."""
        before = self.before[k]
        behind = self.behind[k]
        if before >= 0:
            self.behind[before] = behind
        self.before[behind] = before
        if self.spot == k:
            self.spot = before
        self.before[k] = self.last
        self.behind[self.last] = k
        self.last = k
