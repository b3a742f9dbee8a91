"""What is seen of the runs of a program: what they write, and how they end."""

from inputways.pool import NO
from inputways.symbols import spelled_word
from inputways.unrolling import Unrolling

# Ends of which the word and what stands behind it are seen; of others the word alone is.
WHOLE_ENDS = ("broken", "return")


def seen_of(writes, end):
    """Return what is seen of a run."""
    return (writes, end if end[0] in WHOLE_ENDS else end[:1])


class SeenUnrolling(Unrolling):
    """An unrolling that also tells what is seen of its runs."""

    def __init__(self, program, inputs, steps, pool):
        super().__init__(program, inputs, steps, pool)
        # For each place where a word may be written, and for the end, the words that bundles put there: pairs
        # of the literal of the inputs for which one does, and of the word.
        self.written = {}
        self.returned = []

    def note_write(self, bundle, word):
        """Take note of a word that a bundle writes, behind however many others."""
        counts = bundle.counts
        bundle.counts = {n + 1: counts[n] for n in counts}
        for n in counts:
            self.written.setdefault(n, []).append((self.pool.both(bundle.live, counts[n]), word))

    def note_end(self, end, live):
        """Take note that the runs for some inputs end."""
        super().note_end(end, live)
        if end[0] == "return":
            self.returned.append((live, end[1]))

    def signs(self):
        """Return a dict of literals that tell together what is seen of a run; those that are not there are no."""
        found = {item: self.literal(item) for item in self.met if item[0] == "broken"}
        for word in ("deep", "index", "none"):
            found[(word,)] = self.end_literal(word)
        self.add_signs(found, ("return",), self.returned)
        for place in self.written:
            self.add_signs(found, ("written", place), self.written[place])
        return found

    def add_signs(self, found, name, rows):
        """Put into a dict the literals that there is a word, and of its bits, which are 0 where there is none."""
        found[name] = self.pool.any_of(self.pool.joined([live for live, _ in rows]))
        rows = [(live, spelled_word(self.pool, word, self.plan.width)) for live, word in rows]
        for j in range(self.plan.width):
            bits = [self.pool.both(live, word[j]) for live, word in rows]
            found[name + (j,)] = self.pool.any_of(self.pool.joined(bits))


def unlike_signs(pool, first, second):
    """Return the list of the literals that two dicts of literals differ at a name, each of them once."""
    names = {name: True for name in list(first) + list(second)}
    literals = [pool.unlike(first.get(name, NO), second.get(name, NO)) for name in names]
    return list({x: True for x in literals})
