"""Facts: what rules make of the facts of a store, and trees that show it."""

from gapwise.families import built, keyed, least, opened, refined, refined_count
from gapwise.making import EMPTY, is_in
from gapwise.matching import Fact, Matcher
from gapwise.mixing import MOST, check_many, rest
from gapwise.papers import is_value
from gapwise.points import is_before, is_number, is_point, merged_points
from gapwise.values import is_row, is_word, support, value_text


def rule_points(rules):
    """The points of all values in rules, put together."""
    points = ()
    for (_, terms), body, tests in rules:
        found = list(terms)
        for _, more in body:
            found.extend(more)
        for _, s, t in tests:
            found.extend([s, t])
        for term in found:
            if not isinstance(term, str):
                points = merged_points(points, support(term[1]))
    return points


def store_points(store):
    """The points of all sets of a store, put together."""
    points = ()
    for name in store:
        points = merged_points(points, store[name][1])
    return points


def names_in(rules, given):
    """The names of a store, then those that stand in rules, in their order, each once."""
    found = {name: True for name in given}
    for (name, _), body, _ in rules:
        for one in [name, *[word for word, _ in body]]:
            found[one] = True
    return list(found)


class Growth:
    """The least store of rules and a given one: for each name a dict from the keys of its orbits of facts to Facts."""

    def __init__(self, rules, given):
        self.rules = rules
        self.points = merged_points(store_points(given), rule_points(rules))
        self.matcher = Matcher(rules, self.points)
        self.tables = {name: {} for name in names_in(rules, given)}
        newest = []
        for name in given:
            family = opened(given[name])
            check_many(refined_count(family, self.points), MOST)
            table = refined(family, self.points)
            for key in table:
                newest.append(self.grow(name, key, table[key], 0, None))
        rank = 0
        while newest:
            rank += 1
            newest = self.made_of(newest, rank)

    def grow(self, name, key, skeleton, rank, made_by):
        """Puts a new fact into the store, and returns it."""
        fact = Fact(name, key, skeleton, rank, made_by)
        self.tables[name][key] = fact
        check_many(len(self.tables[name]), MOST)
        return fact

    def made_of(self, newest, rank):
        """The list of the new facts, all of one rank, that matches with at least one of the newest make."""
        lines, come = {}, []
        for fact in newest:
            for number, at, line in self.matcher.put(fact):
                lines.setdefault((number, at), {}).setdefault(line, fact)
        for number, at in lines:
            name = self.rules[number][0][0]
            traces = self.matcher.matches(number, at, lines[(number, at)])
            for line in traces:
                key, skeleton = self.matcher.head_of(number, line)
                if key not in self.tables[name]:
                    come.append(self.grow(name, key, skeleton, rank, (number, traces[line])))
        return come

    def fact_of(self, name, row):
        """The orbit of facts in which a row is, None if it is no fact of the name."""
        key, _ = keyed(row, self.points)
        return self.tables[name].get(key) if name in self.tables else None


def least_facts(rules, given):
    """The least store that has all facts of a given one and all that matches of the rules in it make."""
    growth = Growth(rules, given)
    found = {}
    for name in growth.tables:
        table = growth.tables[name]
        found[name] = least(growth.points, {key: table[key].skeleton for key in table}).plain()
    return found


def rank_of(rules, given, name, row):
    """The rank of a fact of the least store, None for what is none."""
    fact = Growth(rules, given).fact_of(name, row)
    return None if fact is None else fact.rank


def tree_of(rules, given, name, row):
    """A tree of a fact with as few trees below one another as can be, None for what is no fact."""
    growth = Growth(rules, given)
    if growth.fact_of(name, row) is None:
        return None
    done, behind = {}, {}
    waiting = [(name, row)]
    # Trees may be deeper than Python lets calls stand within one another.
    while waiting:
        one, held = waiting[-1]
        key = (one, value_text(held))
        if key not in behind:
            behind[key] = facts_behind(growth, one, held)
        keys = [(word, value_text(fact_row)) for word, fact_row in behind[key]]
        lacking = [behind[key][at] for at in range(len(keys)) if keys[at] not in done]
        if lacking:
            waiting.extend(lacking)
        else:
            waiting.pop()
            fact = growth.fact_of(one, held)
            number = None if fact.made_by is None else fact.made_by[0]
            done[key] = (one, held, number, tuple([done[other] for other in keys]))
    return done[(name, value_text(row))]


def facts_behind(growth, name, row):
    """The list of the pairs of a name and a row of the facts of a match that made a fact; none of a given one."""
    made_by = growth.fact_of(name, row).made_by
    if made_by is None:
        return []
    number, trace = made_by
    rows = growth.matcher.rows_behind(number, trace, row)
    body = growth.rules[number][1]
    return [(body[at][0], rows[at]) for at in range(len(body))]


def judge_tree(rules, given, value):
    """The path to the first tree in any value that is wrong, None if there is none."""
    waiting = [((), value)]
    while waiting:
        path, tree = waiting.pop()
        if not is_right_tree(rules, given, tree):
            return path
        trees = tree[3]
        waiting.extend([((*path, at), trees[at]) for at in range(len(trees) - 1, -1, -1)])
    return None


def is_right_tree(rules, given, tree):
    """Whether any value is a right tree itself, whatever those below it are."""
    if not is_four(tree) or not is_word(tree[0]) or not is_fact_row(tree[1]) or not isinstance(tree[3], tuple):
        return False
    name, row, number, trees = tree
    if not all([is_four(one) for one in trees]):
        return False
    if number is None:
        return not trees and name in given and is_in(row, given[name])
    if not is_number(number) or not 0 <= number < len(rules):
        return False
    return does_make(rules[number], [one[:2] for one in trees], (name, row))


def is_four(value):
    return isinstance(value, tuple) and len(value) == 4


def is_fact_row(value):
    """Whether any value is a row."""
    return is_value(value) and is_row(value)


def does_make(rule, named, made_fact):
    """Whether a match of a rule with just these facts, pairs of any values, atom by atom, makes a fact."""
    head, body, tests = rule
    if len(named) != len(body) or head[0] != made_fact[0]:
        return False
    env = {}
    for at in range(len(body)):
        name, row = named[at]
        if name != body[at][0] or not is_fact_row(row) or not fits(body[at][1], row, env):
            return False
    for word, s, t in tests:
        if not holds(word, worth(s, env), worth(t, env)):
            return False
    return ("row", *[worth(term, env) for term in head[1]]) == made_fact[1]


def fits(terms, row, env):
    """Whether the parts of a row can be the terms' values; env is given those of the variables."""
    if len(row) != len(terms) + 1:
        return False
    for at in range(len(terms)):
        term, part = terms[at], row[at + 1]
        if isinstance(term, str):
            if env.setdefault(term, part) != part:
                return False
        elif term[1] != part:
            return False
    return True


def worth(term, env):
    """The value of a term."""
    return env[term] if isinstance(term, str) else term[1]


def holds(word, one, other):
    """Whether a test holds of two values."""
    if word == "before":
        return is_point(one) and is_point(other) and is_before(one, other)
    return (one == other) == (word == "same")


def judge_closed(rules, given, store):
    """What a store lacks, of a given one or of what matches of the rules in it make; None if it lacks nothing."""
    for name in given:
        lacking = rest(opened(given[name]), opened(store.get(name, EMPTY)), None)
        if lacking.told():
            return ("given", name, lacking.example())
    points = merged_points(rule_points(rules), merged_points(store_points(given), store_points(store)))
    matcher, tables, lines = Matcher(rules, points), {}, {}
    for name in store:
        tables[name] = refined(opened(store[name]), points)
        for key in tables[name]:
            fact = Fact(name, key, tables[name][key], 0, None)
            for number, at, line in matcher.put(fact):
                # Each match has a fact for the first atom.
                if at == 0:
                    lines.setdefault(number, {}).setdefault(line, fact)
    for number in sorted(lines):
        for line in matcher.matches(number, 0, lines[number]):
            key, skeleton = matcher.head_of(number, line)
            if key not in tables.get(rules[number][0][0], {}):
                return ("rule", number, built(skeleton, key[1], points))
    return None
