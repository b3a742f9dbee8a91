"""Claims about the beginnings of blocks and about what procedures return, and that they hold however long a run is."""

from inputways.claim_form import are_gives, are_rows
from inputways.machine import Plan
from inputways.passages import Claims, passage_of, passages_of
from inputways.programs import is_row
from inputways.refuter import refutes
from inputways.solver import solve


def are_claims(program, value):
    """Tell whether a plain value is claims about a program."""
    return is_row(value, 2) and are_rows(program, value[0]) and are_gives(program, value[1])


def obligations(program, claims):
    """Return the tuple of the clauses of all that may not happen if claims are to hold and no assertion to break."""
    found = []
    for passage in passages_of(Plan(program), Claims(claims)):
        found.extend([passage.pool.clauses(entry.happens)[0] for entry in passage.entries])
    return tuple(found)


def check_claims(program, value):
    """Tell whether a plain value is a pair of claims and a refutation of each of their obligations."""
    if not is_row(value, 2) or not are_claims(program, value[0]):
        return False
    clauses = obligations(program, value[0])
    if not is_row(value[1], len(clauses)):
        return False
    return all([refutes(row, refutation) for row, refutation in zip(clauses, value[1])])


def kept(program, claims):
    """Return the greatest part of claims of which none falls under the part alone."""
    plan = Plan(program)
    left = Claims(claims)
    drop_fallen(passages_of(plan, left)[0])
    # What the last passage of each block supposed; where some of that has fallen since, more may fall.
    supposed = {}
    todo = list(plan.blocks)
    while len(todo) > 0:
        for place in todo:
            passage = passage_of(plan, left, place)
            supposed[place] = passage.supposed
            drop_fallen(passage)
        todo = [place for place in plan.blocks if has_fewer(supposed[place])]
    return left.pair()


def has_fewer(supposed):
    """Tell whether some claims are fewer than when they were supposed."""
    return any([len(claims) < count for claims, count in supposed])


def drop_fallen(passage):
    """Drop the claims against which something on a passage can go."""
    for entry in passage.entries:
        if entry.claims is not None and entry.number in entry.claims:
            answer, _ = solve(passage.pool.clauses(entry.happens)[0])
            if answer == "yes":
                del entry.claims[entry.number]


def prove(program, claims):
    """Return what check_claims takes, with the kept claims; None if an assertion can break under these."""
    part = kept(program, claims)
    refutations = []
    for clauses in obligations(program, part):
        answer, found = solve(clauses)
        if answer == "yes":
            return None
        refutations.append(found)
    return (part, tuple(refutations))
