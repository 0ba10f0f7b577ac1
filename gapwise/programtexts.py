"""Programs led along the line, renamed, written and read back."""

from gapwise.errors import BadMove, BadText
from gapwise.forms import CONDITIONS, EXPRESSIONS, LISTED, STATEMENTS, TOLD, parts_of, sorts_behind
from gapwise.reading import Reader
from gapwise.trees import Program
from gapwise.values import value_text

# The places of the names that are no functions' names.
NAMED = {"name": 1, "each": 2, "some": 1, "every": 1, "let": 1, "add": 2, "for": 1, "grow": 1}
HEADED = ("expression", "condition", "choice", "statement")
KINDS = ("word", "point", "row", "set")
MOST_OPEN = 40


def moved_program(program, move):
    """The program with each written point led by the move."""
    news = {old: new for old, new in move}
    return rebuilt(program, led_point, news)


def renamed_program(program, names):
    """The program with the names called otherwise, all at once; only functions keep theirs."""
    return rebuilt(program, renamed, dict(names))


def rebuilt(program, change, table):
    """The program made anew, each of its tuples changed."""
    things = (("inputs", program.inputs()), ("functions", program.functions()), ("block", program.block()))
    inputs, functions, block = [rebuilt_thing(sort, thing, change, table) for sort, thing in things]
    return Program(inputs, functions, block)


def rebuilt_thing(sort, thing, change, table):
    if thing is None:
        return None
    parts = list(change(sort, thing, table))
    for at, inner, part in parts_of(sort, thing):
        parts[at] = rebuilt_thing(inner, part, change, table)
    return tuple(parts)


def led_point(sort, thing, table):
    """The thing with its own point, if it is one that is written, led as the table tells."""
    if sort != "expression" or thing[0] != "point":
        return thing
    if thing[1] not in table:
        raise BadMove()
    return ("point", table[thing[1]])


def renamed(sort, thing, table):
    """The thing with its own name, if it has one, called as the table tells."""
    at = None
    if sort == "entry":
        at = 0
    elif sort in HEADED:
        at = NAMED.get(thing[0])
    if at is None:
        return thing
    return (*thing[:at], table.get(thing[at], thing[at]), *thing[at + 1:])


def program_text(program):
    """The text of the program."""
    things = (("inputs", program.inputs()), ("functions", program.functions()), ("block", program.block()))
    return " ".join([thing_text(sort, thing) for sort, thing in things])


def thing_text(sort, thing):
    """The text of a thing in a program."""
    if thing is None:
        return "-"
    texts = {at: thing_text(inner, part) for at, inner, part in parts_of(sort, thing)}
    written = " ".join([texts[at] if at in texts else small_text(thing[at]) for at in range(len(thing))])
    return "[" + written + "]" if sort in LISTED or sort in TOLD else "(" + written + ")"


def small_text(part):
    """The text of a word, a point or the number of a row's part."""
    return str(part) if isinstance(part, int) else value_text(part)


def read_program(text):
    """The program of which any value is the text."""
    if not isinstance(text, str):
        raise BadText(0)
    reader = ProgramReader(text)
    inputs = reader.read_thing("inputs")
    reader.need(" ")
    functions = reader.read_thing("functions")
    reader.need(" ")
    block = reader.read_thing("block")
    if reader.spot < len(text):
        raise BadText(reader.spot)
    return Program(inputs, functions, block)


def heads(sort):
    """The words with which a thing of a sort that is written in round brackets begins."""
    if sort in ("kind", "inner"):
        return list(KINDS)
    if sort == "expression":
        return list(EXPRESSIONS)
    return list(STATEMENTS) if sort == "statement" else list(CONDITIONS)


class ProgramReader(Reader):
    """Reads the things of a program; it counts the brackets that are open."""

    def __init__(self, text):
        super().__init__(text)
        self.brackets = 0

    def enter(self, mark):
        if self.brackets == MOST_OPEN:
            raise BadText(self.spot)
        self.need(mark)
        self.brackets += 1

    def leave(self, mark):
        self.need(mark)
        self.brackets -= 1

    def read_thing(self, sort):
        """The next thing, which is of the sort."""
        if sort == "choice" and self.take("-"):
            return None
        if sort in LISTED:
            return self.read_listed(sort)
        if sort in TOLD:
            self.enter("[")
            parts = self.read_parts(TOLD[sort])
            self.leave("]")
            return tuple(parts)
        self.enter("(")
        word = self.read_head(heads(sort))
        parts = [word]
        if sort in ("kind", "inner"):
            parts.extend(self.read_kind_parts(word))
        else:
            for part_sort in sorts_behind(sort, word):
                self.need(" ")
                parts.append(self.read_thing_or_part(part_sort))
        self.leave(")")
        return tuple(parts)

    def read_parts(self, sorts):
        """The parts of these sorts, with blanks between them."""
        parts = [self.read_thing_or_part(sorts[0])]
        for sort in sorts[1:]:
            self.need(" ")
            parts.append(self.read_thing_or_part(sort))
        return parts

    def read_listed(self, sort):
        """A tuple of things of one sort."""
        self.enter("[")
        parts = []
        if sort == "few" or not self.sees("]", "]"):
            parts.append(self.read_thing(LISTED[sort]))
            while not (sort == "few" and len(parts) == 4) and self.take(" "):
                parts.append(self.read_thing(LISTED[sort]))
        self.leave("]")
        return tuple(parts)

    def read_kind_parts(self, word):
        """The parts behind the word of a kind."""
        parts = []
        if word in ("row", "set"):
            self.need(" ")
            parts.append(self.read_thing("inner"))
            while word == "row" and len(parts) < 4 and self.take(" "):
                parts.append(self.read_thing("inner"))
        return parts

    def read_head(self, words):
        """The next word, one of words, none of which begins with another one."""
        start = self.spot
        while self.text[start:self.spot] not in words:
            begun = self.text[start:self.spot + 1]
            if self.spot == len(self.text) or not any([word.startswith(begun) for word in words]):
                raise BadText(self.spot)
            self.spot += 1
        return self.text[start:self.spot]

    def read_thing_or_part(self, sort):
        """The next thing, or the next word, point or number of a row's part."""
        if sort == "point":
            return self.read_point()
        if sort == "word":
            if not self.sees("a", "z"):
                raise BadText(self.spot)
            return self.read_word()
        if sort != "place":
            return self.read_thing(sort)
        if not self.sees("0", "3"):
            raise BadText(self.spot)
        self.spot += 1
        return int(self.text[self.spot - 1])
