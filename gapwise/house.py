"""Houses of names: branches of deeds that can be undone, edited and merged."""

from gapwise.algebra import both, join, less
from gapwise.deeds import behind, differences, reads, writes
from gapwise.errors import BadName, BadSample, Clash, LineError, NoDeed, NothingDone, NotThere, TooMany, UnknownName
from gapwise.making import EMPTY
from gapwise.points import is_number
from gapwise.reading import are_points
from gapwise.samples import count
from gapwise.values import is_set, is_word

MOST_BRANCHES = 6
MOST_DEEDS = 60


class House:
    """Branches by their names, in the order in which they were made; the house stands in one of them.

    For each branch there are its script, the states behind 0, 1, .. of its deeds, and its place. The lists are never
    changed, but replaced, so that houses can share them.
    """

    def __init__(self):
        self._scripts = {"main": []}
        self._states = {"main": [{}]}
        self._places = {"main": 0}
        self._present = "main"

    def __eq__(self, other):
        return (isinstance(other, House) and list(self._scripts) == list(other._scripts)
                and self._scripts == other._scripts and self._places == other._places
                and self._present == other._present)

    def keep(self, script, states, place):
        """Gives the present branch another script, with its states, and a place, which is returned."""
        self._scripts[self._present] = script
        self._states[self._present] = states
        self._places[self._present] = place
        return place

    def now(self):
        """The script of the present branch, its states and its place."""
        return self._scripts[self._present], self._states[self._present], self._places[self._present]

    def after(self, deeds):
        """The script and the states that the present branch would have with these deeds done."""
        script, states, place = self.now()
        script, states = script[:place], states[:place + 1]
        for deed in deeds:
            states.append(behind(states[-1], deed))
            if len(script) == MOST_DEEDS:
                raise TooMany()
            script.append(deed)
        return script, states

    def do(self, deed):
        """Does any value as a deed in the present branch; those that are not done are cut off. The place is told."""
        script, states = self.after([deed])
        return self.keep(script, states, len(script))

    def undo(self):
        script, states, place = self.now()
        if place == 0:
            raise NothingDone()
        return self.keep(script, states, place - 1)

    def redo(self):
        script, states, place = self.now()
        if place == len(script):
            raise NothingDone()
        return self.keep(script, states, place + 1)

    def branch(self, name):
        """Makes a branch of the done deeds of the present one; the house stays."""
        if not is_word(name) or name in self._scripts:
            raise BadName(name)
        if len(self._scripts) == MOST_BRANCHES:
            raise TooMany()
        script, states, place = self.now()
        self._scripts[name] = script[:place]
        self._states[name] = states[:place + 1]
        self._places[name] = place

    def go(self, name):
        """The house stands in the branch; its place is told."""
        self.check_branch(name)
        self._present = name
        return self._places[name]

    def check_branch(self, name):
        """Raises UnknownName if any value is no branch's name."""
        if not isinstance(name, str) or name not in self._scripts:
            raise UnknownName(name)

    def state(self):
        """The state behind the done deeds of the present branch."""
        _, states, place = self.now()
        return dict(states[place])

    def state_at(self, number):
        """The state behind so many deeds, any value, of the present script."""
        _, states, _ = self.now()
        check_number(number, len(states))
        return dict(states[number])

    def here(self):
        return self._present

    def branches(self):
        """The list of the names of all branches, in the order in which they were made."""
        return list(self._scripts)

    def script(self, name):
        """The list of the deeds of a branch."""
        self.check_branch(name)
        return list(self._scripts[name])

    def place(self, name):
        """How many of a branch's deeds are done."""
        self.check_branch(name)
        return self._places[name]

    def twin(self):
        """An equal house that goes its own way."""
        other = House()
        other._scripts = dict(self._scripts)
        other._states = dict(self._states)
        other._places = dict(self._places)
        other._present = self._present
        return other

    def edit(self, number, deed):
        """Puts a deed in the place of another one of the present script; those behind it are done anew."""
        script, _, place = self.now()
        check_number(number, len(script))
        return self.rebuild(number, [*script[:number], deed, *script[number + 1:]], place)

    def insert(self, number, deed):
        """Puts a deed ahead of another one of the present script, or at its end."""
        script, _, place = self.now()
        check_number(number, len(script) + 1)
        if len(script) == MOST_DEEDS:
            raise TooMany()
        return self.rebuild(number, [*script[:number], deed, *script[number:]], place + int(number <= place))

    def remove(self, number):
        """Leaves out a deed of the present script."""
        script, _, place = self.now()
        check_number(number, len(script))
        return self.rebuild(number, [*script[:number], *script[number + 1:]], place - int(number < place))

    def rebuild(self, number, script, place):
        """Keeps a script whose deeds are done anew from the one with this number on; the place is told."""
        _, states, _ = self.now()
        states = states[:number + 1]
        for deed in script[number:]:
            states.append(behind(states[-1], deed))
        return self.keep(script, states, place)

    def hangs_on(self, name):
        """The ascending list of the numbers of the done deeds on which the value of a name, any value, hangs."""
        script, states, place = self.now()
        if not isinstance(name, str) or name not in states[place]:
            raise UnknownName(name)
        wanted, found = {name: True}, []
        for number in range(place - 1, -1, -1):
            written = writes(script[number])
            if written is None and wanted:
                found.append(number)
            elif written is not None and any([one in wanted for one in written]):
                found.append(number)
                left = [other for other in wanted if other not in written]
                wanted = {other: True for other in reads(script[number]) + left}
        return found[::-1]

    def may_swap(self, number):
        """Whether a deed of this number, any value, and the next one can be exchanged, and nothing changes by it."""
        script, states, _ = self.now()
        check_number(number, len(script) - 1)
        try:
            between = behind(states[number], script[number + 1])
            return behind(between, script[number]) == states[number + 2]
        except (LineError, NotThere):
            return False

    def merge(self, name):
        """Merges a branch, any value, into the present one; the place is told."""
        self.check_branch(name)
        script, states, place = self.now()
        others, many = self._scripts[name], self._places[name]
        common = 0
        while common < place and common < many and script[common] == others[common]:
            common += 1
        if common == many:
            return place
        merged = merged_state(states[common], states[place], self._states[name][many])
        deeds = deeds_between(states[place], merged)
        if deeds:
            script, states = self.after(deeds)
            return self.keep(script, states, len(script))
        return place

    def would_change(self, deeds):
        """What would be unlike behind these deeds, any values; nothing is done."""
        _, states = self.after(deeds)
        return differences(self.state(), states[-1])

    def tried(self, deeds):
        """Does deeds, any values, all of them or none; the list of the places is told."""
        _, _, place = self.now()
        if not deeds:
            return []
        script, states = self.after(deeds)
        self.keep(script, states, len(script))
        return [place + at + 1 for at in range(len(deeds))]

    def trace(self, sample):
        """For each number of done deeds how many members the sets of the names have on a sample, any value."""
        if not are_points(sample):
            raise BadSample()
        _, states, place = self.now()
        found, known = [], {}
        for state in states[:place + 1]:
            counts = {}
            for name in state:
                # Most values are those of the state ahead.
                if name not in known or known[name][0] != state[name]:
                    known[name] = (state[name], count_on(state[name], sample))
                if known[name][1] is not None:
                    counts[name] = known[name][1]
            found.append(counts)
        return found


def check_number(number, many):
    """Raises NoDeed if any value is no number below so many."""
    if not is_number(number) or not 0 <= number < many:
        raise NoDeed(number)


def count_on(value, sample):
    """How many members of a value lie on a tuple of points, None if it is no set of which this is a sample."""
    if not is_set(value):
        return None
    try:
        return count(value, sample)
    except BadSample:
        return None


def merged_state(common, mine, other):
    """The state of the present branch with what has changed since the common state in the other one."""
    chosen, mixed, clashing = {}, [], []
    for name in sorted({**common, **mine, **other}):
        w, h, t = common.get(name), mine.get(name), other.get(name)
        if t == w or h == t:
            chosen[name] = h
        elif h == w:
            chosen[name] = t
        elif are_sets(w, h, t):
            mixed.append(name)
        else:
            clashing.append(name)
    if clashing:
        raise Clash(tuple(clashing))
    for name in mixed:
        chosen[name] = mixed_set(common.get(name, EMPTY), mine[name], other[name])
    return {name: chosen[name] for name in sorted(chosen) if chosen[name] is not None}


def are_sets(w, h, t):
    """Whether the last two of three values, None for none, are sets, and the first one, if there is one."""
    return is_set(h) and is_set(t) and (w is None or is_set(w))


def mixed_set(w, h, t):
    """What is in both sets, and what either has that was not in the common one."""
    return join(both(h, t), join(less(h, w), less(t, w)))


def deeds_between(state, wanted):
    """The list of the deeds that make a wanted state of another one."""
    drops = [("drop", name) for name in state if name not in wanted]
    return drops + [("name", name, wanted[name]) for name in wanted if state.get(name) != wanted[name]]
