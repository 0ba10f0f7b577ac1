"""Rules worked out match by match over orbits of all facts of a body at once, and rules and stores made from a seed."""

from gapwise.algebra import join
from gapwise.families import opened
from gapwise.making import EMPTY, LINE, is_in, made, orbits
from gapwise.mixing import paired
from gapwise.points import is_before
from gapwise.values import support
from tests.helping import HALVES, ascending, some_points
from tests.relations import some_part


def all_points(rules, *stores):
    found = [point for store in stores for many in store.values() for point in many[1]]
    for (_, terms), body, tests in rules:
        every = [*terms, *[term for _, more in body for term in more], *[term for _, s, t in tests for term in (s, t)]]
        found.extend([point for term in every if not isinstance(term, str) for point in support(term[1])])
    return ascending(found)


def worth(term, env):
    return env[term] if isinstance(term, str) else term[1]


def holds(test, env):
    word, one, other = test[0], worth(test[1], env), worth(test[2], env)
    if word == "before":
        return all(not isinstance(value, str) and value[0] not in ("row", "set") for value in (one, other)) and is_before(one, other)
    return (one == other) if word == "same" else one != other


def match(rule, rows):
    """The row that the rule makes of these rows, None if there is no match."""
    (_, head), body, tests = rule
    env = {}
    for (_, terms), row in zip(body, rows):
        if len(terms) != len(row) - 1:
            return None
        for term, part in zip(terms, row[1:]):
            if isinstance(term, str):
                env.setdefault(term, part)
            if worth(term, env) != part:
                return None
    if not all(holds(test, env) for test in tests):
        return None
    return ("row", *[worth(term, env) for term in head])


def bodies(sets, points):
    """All rows of rows of facts, one of each set, that stand for the orbits of such over points."""
    if len(sets) == 1:
        return [(row,) for row in orbits(sets[0], points)]
    many = opened(sets[0])
    for other in sets[1:]:
        many = paired(many, opened(other), None)
    found = []
    for row in orbits(many.plain(), points):
        rows = []
        while len(rows) < len(sets) - 1:
            rows.append(row[2])
            row = row[1]
        found.append((row, *rows[::-1]))
    return found


def made_by(rule, store, points):
    """The set of all facts that matches of the rule in the store make."""
    sets = [store.get(name, EMPTY) for name, _ in rule[1]]
    if EMPTY in sets:
        return EMPTY
    rows = [match(rule, rows) for rows in bodies(sets, points)]
    return made(points, [row for row in rows if row is not None])


def names_of(rules, given):
    return list(dict.fromkeys([*given, *[name for head, body, _ in rules for name in (head[0], *[atom[0] for atom in body])]]))


def stores_by_rank(rules, given):
    """The stores of all facts of rank up to 0, 1, .., the last one the least store."""
    points = all_points(rules, given)
    store = {name: given.get(name, EMPTY) for name in names_of(rules, given)}
    stores = [store]
    while True:
        grown = dict(store)
        for rule in rules:
            grown[rule[0][0]] = join(grown[rule[0][0]], made_by(rule, store, points))
        if grown == store:
            return stores
        store = grown
        stores.append(store)


def some_terms(chance, many, variables, values):
    """So many terms, mostly unlike variables."""
    chosen = chance.sample(variables, min(many, len(variables))) + chance.choices(variables, k=many)
    return tuple(("value", chance.choice(values)) if chance.random() < 0.08 else term for term in chosen[:many])


def some_rules(chance, names, given, sizes, values):
    """One to three rules over names whose rows have these sizes; the first one asks for given facts alone."""
    rules = []
    for number in range(chance.choice([1, 2, 2, 3])):
        variables = ["x", "y", "z", "u"][:chance.choice([2, 3, 3, 4])]
        asked = chance.choices(given if number == 0 else names, k=chance.choice([1, 1, 2, 2, 2, 3]))
        body = tuple((name, some_terms(chance, sizes[name], variables, values)) for name in asked)
        known = [term for _, terms in body for term in terms if isinstance(term, str)] or [("value", "a")]
        chosen = known * 2 + [("value", chance.choice(values))]
        head = chance.choice(names)
        tests = tuple((chance.choice(["before", "same", "unlike", "unlike"]), chance.choice(chosen), chance.choice(chosen)) for _ in range(chance.choice([0, 0, 0, 1, 1, 2])))
        terms = tuple(("value", chance.choice(values)) if chance.random() < 0.08 else chance.choice(known) for _ in range(sizes[head]))
        rules.append(((head, terms), body, tests))
    return tuple(rules)


def some_case(chance):
    """Rules and a store, small."""
    points = some_points(chance, chance.choice([0, 0, 0, 1]))
    sizes = {"p": 1, "q": 2, "r": chance.choice([1, 2, 2]), "s": 2}
    values = ["a", "b", LINE, *points, *points]
    if chance.random() < 0.15:
        values.append(chance.choice([chance.choice(HALVES), ("row", chance.choice(HALVES))]))
    given = {}
    for name in chance.sample(["p", "q", "r"], chance.choice([1, 2, 2])):
        parts = ["a", "b", some_part(chance, 1), some_part(chance, 1), ("row", some_part(chance, 1)), *points]
        rows = []
        for _ in range(chance.choice([1, 2, 2, 3])):
            rows.append(("row", *[chance.choice(parts) for _ in range(sizes[name] if chance.random() < 0.95 else 3)]))
        given[name] = made(points, rows)
    if chance.random() < 0.1:
        given[chance.choice("pqt")] = EMPTY
    rules = some_rules(chance, list(sizes), [name for name in given if name in sizes], sizes, values)
    if "q" in given and chance.random() < 0.6:
        middle = chance.choice(["q", "s", "s"])
        rules = (*rules[:1], (("s", ("x", "y")), (("q", ("x", "y")),), ()), (("s", ("x", "z")), (("s", ("x", "y")), (middle, ("y", "z"))), chance.choice([(), (("unlike", "x", "z"),)])))
    return rules, given


def is_fact(store, name, row):
    return name in store and is_in(row, store[name])
