"""Matches of rules, orbit by orbit over points."""

from gapwise.charts import led_to, places_at
from gapwise.families import keyed
from gapwise.joining import Constant, Plan, Ready, holds_all, kept_columns
from gapwise.lines import Loom
from gapwise.placing import placed, replaced
from gapwise.points import merged_points
from gapwise.values import support, value_text


class Fact:
    """An orbit of facts: its name, its key and skeleton, its rank, and how it was made first, None for a given one."""

    def __init__(self, name, key, skeleton, rank, made_by):
        self.name = name
        self.orbit = key
        self.skeleton = skeleton
        self.rank = rank
        self.made_by = made_by


class Trace:
    """How a line came about: a fact for an atom, put to what came about ahead of it by a stage.

    whole is the line of all the stage's columns. For the first atom of a plan ahead, stage and whole are None.
    """

    def __init__(self, ahead, at, fact, stage, whole):
        self.ahead = ahead
        self.atom = at
        self.fact = fact
        self.stage = stage
        self.whole = whole


class Matcher:
    """Rules over points among which those of all their values and of all facts' sets are.

    It finds the matches of rules in the facts that have been put in.
    """

    def __init__(self, rules, points):
        self.points = points
        self.loom = Loom(points)
        self.readies = [Ready(rule, points) for rule in rules]
        self.columns = [kept_columns(ready) for ready in self.readies]
        self.plans = []
        self.asked = {}
        self.parts = {}
        self.skeletons = {}
        self.heads = [{} for _ in rules]
        for number in range(len(rules)):
            self.plans.append(self.plans_of(number))

    def plans_of(self, number):
        """The plans of a rule, one for each atom of its body; their shelves wait for facts of their atoms' names."""
        ready, columns = self.readies[number], self.columns[number]
        plans = [Plan(ready, start, columns) for start in range(len(columns))]
        for at in range(len(columns)):
            shelves = [stage.shelf for plan in plans for stage in plan.stages if stage.atom == at]
            if not ready.never:
                self.asked.setdefault(ready.body[at][0], []).append((number, at, shelves))
        return plans

    def line_of(self, fact):
        """The line of the parts of a fact's row."""
        text, codes = fact.orbit
        if text not in self.parts:
            texts, ranks = [], []
            for part in fact.skeleton[1:]:
                skeleton = placed(part, ())
                texts.append(value_text(skeleton))
                ranks.append(tuple([rank for rank, _ in support(part)]))
                self.skeletons[texts[-1]] = skeleton
            self.parts[text] = (tuple(texts), tuple(ranks))
        texts, ranks = self.parts[text]
        return (texts, codes, ranks)

    def atom_line(self, number, at, fact):
        """The line of the kept variables of an atom of a rule for a fact of its name, None if it does not fit."""
        terms = self.readies[number].body[at][1]
        texts, codes, ranks = self.line_of(fact)
        if len(terms) != len(texts):
            return None
        places = {}
        for place in range(len(terms)):
            term = terms[place]
            if isinstance(term, Constant):
                if texts[place] != term.text or tuple([codes[rank] for rank in ranks[place]]) != term.spots:
                    return None
            elif term not in places:
                places[term] = place
            elif texts[place] != texts[places[term]] or ranks[place] != ranks[places[term]]:
                return None
        return self.loom.chosen((texts, codes, ranks), tuple([places[term] for term in self.columns[number][at]]))

    def put(self, fact):
        """Puts in a fact; it returns the triples of a rule's number, an atom's and the fact's line for all it fits."""
        found = []
        for number, at, shelves in self.asked.get(fact.name, []):
            line = self.atom_line(number, at, fact)
            if line is not None:
                found.append((number, at, line))
                for shelf in shelves:
                    shelf.put(self.loom, line, fact)
        return found

    def matches(self, number, at, lines):
        """The lines of the head's variables for all matches of a rule with one of the lines for an atom.

        Lines is a dict from lines to facts; it returns one from lines to Traces.
        """
        plan = self.plans[number][at]
        left = {}
        for line in lines:
            if holds_all(plan.tests, line):
                left.setdefault(self.loom.chosen(line, plan.keeps), Trace(None, at, lines[line], None, None))
        for stage in plan.stages:
            left = self.put_together(left, stage)
        return left

    def put_together(self, left, stage):
        found = {}
        for line in left:
            group, one = self.loom.parted(line, stage.shared, stage.others)
            beside = stage.shelf.groups.get(group, {})
            for other in beside:
                texts = group[0] + one[0] + other[0]
                chosen = tuple([texts[at] for at in stage.keeps])
                for way in self.loom.ways(group, one, other, stage.keeps):
                    grown = (chosen, *way.small)
                    if grown not in found:
                        whole = (texts, way.spots, way.ranks)
                        if not stage.tests or holds_all(stage.tests, whole):
                            found[grown] = Trace(left[line], stage.atom, beside[other], stage, whole)
        return found

    def head_of(self, number, line):
        """The key and the skeleton of the fact that a match of a rule makes, by the line of the head's variables."""
        known = self.heads[number]
        if line not in known:
            texts, codes, ranks = line
            held = places_at(codes, self.points)
            terms = self.readies[number].head
            variables = list({term: True for term in terms if isinstance(term, str)})
            env = {}
            for at in range(len(variables)):
                env[variables[at]] = led_to(self.skeletons[texts[at]], [held[rank] for rank in ranks[at]])
            known[line] = keyed(row_of(terms, env), self.points)
        return known[line]

    def rows_behind(self, number, trace, row):
        """The rows of the facts, atom by atom, of the match that made a row, which is alike to one that it made."""
        traces = []
        while trace is not None:
            traces.append(trace)
            trace = trace.ahead
        first = traces.pop()
        rows = [self.row_at(first.fact)]
        env = self.bound_by(number, first.atom, rows[0])
        ats = [first.atom]
        while traces:
            trace = traces.pop()
            stage, values = trace.stage, self.values_of(trace.whole)
            news = {stage.columns[at]: values[at] for at in range(len(values))}
            rows = self.led(rows, [env[one] for one in stage.left], [news[one] for one in stage.left])
            more = self.row_at(trace.fact)
            olds = self.bound_by(number, trace.atom, more)
            rows.extend(self.led([more], [olds[one] for one in stage.right], [news[one] for one in stage.right]))
            ats.append(trace.atom)
            env = news
        rows = self.led(rows, [row_of(self.readies[number].head, env)], [row])
        found = {ats[at]: rows[at] for at in range(len(ats))}
        return [found[at] for at in range(len(ats))]

    def row_at(self, fact):
        """The row that stands for an orbit of facts."""
        return led_to(fact.skeleton, places_at(fact.orbit[1], self.points))

    def bound_by(self, number, at, row):
        """The values of the variables of an atom for a row."""
        terms = self.readies[number].body[at][1]
        return {terms[place]: row[place + 1] for place in range(len(terms)) if isinstance(terms[place], str)}

    def values_of(self, line):
        """The values of a line."""
        texts, codes, ranks = line
        held = places_at(codes, self.points)
        return [led_to(self.skeletons[texts[at]], [held[rank] for rank in ranks[at]]) for at in range(len(texts))]

    def led(self, rows, olds, news):
        """The rows led, all at once, so that each old value, alike to the new ones all at once, becomes its new one."""
        held, wanted = self.points, self.points
        for old, new in zip(olds, news):
            held, wanted = merged_points(held, support(old)), merged_points(wanted, support(new))
        return list(replaced(("row", *rows), held, wanted)[1:])


def row_of(terms, env):
    """The row of the values of terms."""
    return ("row", *[term.value if isinstance(term, Constant) else env[term] for term in terms])
