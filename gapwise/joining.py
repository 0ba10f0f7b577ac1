"""Rules made ready: in which order the atoms of a body are put together, and which variables are kept on the way.

A variable that stands nowhere else is not kept. Of tests, those that ask for equal values are done by calling one
variable as the other, or by its value.
"""

from gapwise.families import keyed


class Constant:
    """A value in a rule: its text, placed over no points, and its codes over points among which its own are."""

    def __init__(self, value, points):
        key, _ = keyed(value, points)
        self.value = value
        self.text, self.spots = key


class Ready:
    """A rule whose terms are variables and Constants; head has the head's terms.

    It never matches if tests for equal values tell so of values alone.
    """

    def __init__(self, rule, points):
        head, body, tests = rule
        self.called = {}
        self.never = False
        asked = [(word, self.term(s, points), self.term(t, points)) for word, s, t in tests]
        for word, s, t in asked:
            if word == "same":
                self.unify(self.settled(s), self.settled(t))
        self.head = self.terms_of(head[1], points)
        self.body = [(name, self.terms_of(terms, points)) for name, terms in body]
        self.tests = []
        for word, s, t in asked:
            if word != "same":
                self.tests.append((word, self.settled(s), self.settled(t)))

    def term(self, term, points):
        return term if isinstance(term, str) else Constant(term[1], points)

    def terms_of(self, terms, points):
        return [self.settled(self.term(term, points)) for term in terms]

    def settled(self, term):
        """What stands for a term."""
        while isinstance(term, str) and term in self.called:
            term = self.called[term]
        return term

    def unify(self, one, other):
        if isinstance(one, str):
            if one != other:
                self.called[one] = other
        elif isinstance(other, str):
            self.called[other] = one
        elif one.value != other.value:
            self.never = True

    def variables(self, at):
        """The list of the variables of an atom of the body, each once."""
        return variables_of(self.body[at][1])


def variables_of(terms):
    """The list of the variables among terms, each once."""
    return list({term: True for term in terms if isinstance(term, str)})


class Shelf:
    """The lines of an atom by the part that they share with others: for each the other parts, with a fact's key."""

    def __init__(self, shared, others):
        self.shared = shared
        self.others = others
        self.groups = {}

    def put(self, loom, line, fact):
        group, other = loom.parted(line, self.shared, self.others)
        self.groups.setdefault(group, {}).setdefault(other, fact)


class Stage:
    """One more atom put to the lines of some variables.

    The columns of what comes of it are the shared variables, the others of the lines, the others of the atom. tests are
    those that are due then; keeps tells which columns are kept.
    """

    def __init__(self, at, bound, columns):
        shared = [variable for variable in columns if variable in bound]
        others = [variable for variable in columns if variable not in bound]
        self.atom = at
        self.shared = numbers_in(shared, bound)
        self.others = tuple([number for number in range(len(bound)) if bound[number] not in shared])
        self.shelf = Shelf(numbers_in(shared, columns), numbers_in(others, columns))
        self.left = shared + [bound[number] for number in self.others]
        self.right = shared + others
        self.columns = self.left + others
        self.tests = []
        self.keeps = ()


class Plan:
    """How the matches of a rule are found that have one of some facts for the atom of its body with this number.

    columns has for each atom the variables that are kept of it. tests are those of the first atom alone, keeps tells
    which of its columns are kept; then come the stages.
    """

    def __init__(self, ready, start, columns):
        self.start = start
        self.stages = []
        waiting = list(ready.tests)
        left = [at for at in range(len(columns)) if at != start]
        self.tests, waiting = due_tests(waiting, columns[start])
        bound = kept(ready, waiting, [columns[at] for at in left], columns[start])
        self.keeps = numbers_in(bound, columns[start])
        while left:
            at = most_shared(left, columns, bound)
            left = [number for number in left if number != at]
            stage = Stage(at, bound, columns[at])
            stage.tests, waiting = due_tests(waiting, stage.columns)
            bound = kept(ready, waiting, [columns[number] for number in left], stage.columns)
            stage.keeps = numbers_in(bound, stage.columns)
            self.stages.append(stage)


def most_shared(left, columns, bound):
    """The atom, of those left, of which the most variables are among the bound ones."""
    _, atom = max([(len([variable for variable in columns[at] if variable in bound]), at) for at in left])
    return atom


def numbers_in(variables, columns):
    """The numbers of the columns that some variables have."""
    return tuple([columns.index(variable) for variable in variables])


def due_tests(tests, columns):
    """The tests all of whose variables are among columns, told by their numbers; and the other tests."""
    due, waiting = [], []
    for word, s, t in tests:
        if all([not isinstance(term, str) or term in columns for term in (s, t)]):
            sides = [columns.index(term) if isinstance(term, str) else term for term in (s, t)]
            due.append((word, *sides))
        else:
            waiting.append((word, s, t))
    return due, waiting


def kept(ready, tests, others, columns):
    """Which of some variables are still asked for, by the head, by tests or by other atoms; at last the head's own."""
    if not others:
        return variables_of(ready.head)
    wanted = variables_of([*ready.head, *[term for _, s, t in tests for term in (s, t)]])
    return [one for one in columns if one in wanted or any([one in other for other in others])]


def kept_columns(ready):
    """For each atom the list of its variables that stand elsewhere, too."""
    found = []
    for at in range(len(ready.body)):
        terms = [*ready.head, *[term for _, s, t in ready.tests for term in (s, t)]]
        for other in range(len(ready.body)):
            if other != at:
                terms.extend(ready.body[other][1])
        wanted = variables_of(terms)
        found.append([one for one in ready.variables(at) if one in wanted])
    return found


def holds_all(tests, line):
    """Whether all tests hold of the values of a line, in its columns."""
    return all([holds_test(test, line) for test in tests])


def holds_test(test, line):
    word, s, t = test
    (one, spots, ranks), (other, more_spots, more_ranks) = side_of(s, line), side_of(t, line)
    if word == "unlike":
        return one != other or spots != more_spots or ranks != more_ranks and None not in (ranks, more_ranks)
    if one != "0" or other != "0":
        return False
    # Points with codes of one gap are told apart by their ranks alone; a Constant has a code of its own.
    return spots < more_spots if None in (ranks, more_ranks) else ranks < more_ranks


def side_of(side, line):
    """The text of a side of a test, its codes over the points, and its ranks in the line, None for a Constant's."""
    if isinstance(side, Constant):
        return side.text, side.spots, None
    texts, codes, ranks = line
    return texts[side], tuple([codes[rank] for rank in ranks[side]]), ranks[side]
