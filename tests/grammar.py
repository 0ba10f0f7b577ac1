"""The form of a program's text as rules, told apart from the reader: how far a text goes on rightly."""

LETTERS = "abcdefghijklmnopqrstuvwxyz"
# A symbol is a string (one of its characters comes next) or the name of a rule in round brackets.
RULES = {}


def rule(name, *choices):
    RULES[f"({name})"] = [tuple(choice) for choice in choices]


def spelled(text):
    """The symbols of which each is just one character."""
    return [("=" + letter) for letter in text]


def listed(name, item, least=0, most=None):
    """A tuple in square brackets of things of one kind."""
    if most is None:
        rule(name, *([spelled("[]")] if least == 0 else []), [*spelled("["), f"({item})", f"({name} rest)"])
        rule(f"{name} rest", spelled("]"), [*spelled(" "), f"({item})", f"({name} rest)"])
        return
    rule(name, *[[*spelled("["), f"({item})", *(spelled(" ") + [f"({item})"]) * more, *spelled("]")] for more in range(most)])


def things(name, table):
    """Things in round brackets: a first word, and the rules of the parts behind it."""
    choices = []
    for word, parts in table:
        symbols = spelled("(" + word)
        for part in parts:
            symbols += [*spelled(" "), f"({part})"]
        choices.append([*symbols, *spelled(")")])
    rule(name, *choices)


rule("word", *[["a-z"] * many for many in range(1, 9)])
rule("place", ["0-3"])
rule("figures", *[["0-9"] * many for many in range(30)])
rule("number", ["1-9", "(figures)"])
rule("below", ["2-9", "(figures)"], *[["=1", *["0-9"] * many] for many in range(1, 30)])
rule("above", spelled("0"), ["(number)"], ["=-", "(number)"])
rule("point", ["(above)"], ["(above)", "=/", "(below)"])
things("kind", [("word", []), ("point", []), ("set", ["kind"]), *[("row", ["kind"] * many) for many in range(1, 5)]])
E = "expression"
things(E, [
    ("word", ["word"]), ("point", ["point"]), ("name", ["word"]), ("line", []), ("row", ["few"]), ("item", ["place", E]), ("set", ["kind", "many"]), ("join", [E, E]),
    ("both", [E, E]), ("less", [E, E]), ("pairs", [E, E]), ("all", [E]), ("each", [E, "word", E, "choice"]), ("call", ["word", "many"])])
C = "condition"
things(C, [
    ("before", [E, E]), ("same", [E, E]), ("in", [E, E]), ("within", [E, E]), ("not", [C]), ("and", [C, C]), ("or", [C, C]), ("some", ["word", E, C]), ("every", ["word", E, C])])
rule("choice", spelled("-"), [f"({C})"])
things("statement", [("let", ["word", E]), ("add", [E, "word"]), ("for", ["word", E, "block"]), ("if", [C, "block", "block"]), ("grow", ["word", E, "block"])])
listed("many", E)
listed("few", E, 1, 4)
listed("block", "statement")
rule("entry", [*spelled("["), "(word)", *spelled(" "), "(kind)", *spelled("]")])
listed("inputs", "entry")
rule("function", [*spelled("["), "(word)", *spelled(" "), "(inputs)", *spelled(" "), f"({E})", *spelled("]")])
listed("functions", "function")
rule("program", ["(inputs)", *spelled(" "), "(functions)", *spelled(" "), "(block)"])


def opened(stacks):
    """The stacks with a character on top, or nothing, that come of these; a stack's top is its last symbol."""
    found, waiting = set(), list(stacks)
    while waiting:
        stack = waiting.pop()
        if stack and stack[-1] in RULES:
            waiting.extend([stack[:-1] + choice[::-1] for choice in RULES[stack[-1]]])
        else:
            found.add(stack)
    return found


def takes(symbol, letter):
    if symbol[0] == "=":
        return letter == symbol[1]
    low, high = symbol[0], symbol[2]
    return low <= letter <= high


def good_length(text):
    """How many of the first characters some text of the form begins with, and whether these are such a text."""
    stacks = opened([("(program)",)])
    brackets = 0
    for place, letter in enumerate(text):
        if letter in "([" and brackets == 40:
            return place, False
        stacks = opened([stack[:-1] for stack in stacks if stack and takes(stack[-1], letter)])
        if not stacks:
            return place, False
        brackets += (letter in "([") - (letter in ")]")
    return len(text), () in stacks
