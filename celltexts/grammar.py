"""Tokens, read into a program's tree, each function for one line of the grammar or one choice of it.

The functions call one another as brackets stand within one another, so brackets must not be deep.
"""

from celltexts.faults import NO_PROGRAM, Fault
from celltexts.trees import SIDES, Tree

# The strengths at which the lines OR, NOT, COMPARED and SIGNED of the grammar are read.
OR_LINE = 1
NOT_LINE = 3
COMPARED_LINE = 4
SIGNED_LINE = 8

SHOWING = ("show", "table", "plot", "check", "do", "give")

# How many expressions stand in the brackets behind the word.
BUILT_IN = {"len": 1, "keys": 1, "text": 1, "num": 1, "roll": 1, "cut": 3, "with": 3}


class Reader:
    def __init__(self, tokens):
        self.tokens = tokens
        self.at = 0

    def look(self):
        return self.tokens[self.at].kind

    def look_behind(self):
        return self.tokens[self.at + 1].kind

    def here(self):
        return self.tokens[self.at].place

    def behind_last(self):
        return self.tokens[self.at - 1].end

    def move_on(self):
        kind = self.look()
        self.at += 1
        return kind

    def take(self, kind):
        if self.look() != kind:
            raise Fault(NO_PROGRAM, self.here())
        value = self.tokens[self.at].value
        self.at += 1
        return value


def read_program(tokens):
    reader = Reader(tokens)
    return read_statements(reader, "END")


def read_statements(reader, closing):
    statements = []
    while reader.look() != closing:
        place = reader.here()
        statement = read_statement(reader)
        statement.place = place
        statement.end = reader.behind_last()
        statements.append(statement)
    return statements


def read_block(reader):
    reader.take("{")
    statements = read_statements(reader, "}")
    reader.take("}")
    return statements


def read_statement(reader):
    kind = reader.look()
    if kind in ("let", "set"):
        return read_binding(reader)
    if kind in SHOWING:
        return read_showing(reader)
    if kind == "if":
        return read_if(reader)
    if kind == "while":
        return read_while(reader)
    if kind == "for":
        return read_for(reader)
    if kind == "slider":
        return read_slider(reader)
    if kind == "choice":
        return read_choice(reader)
    raise Fault(NO_PROGRAM, reader.here())


def read_binding(reader):
    kind = reader.move_on()
    name = reader.take("NAME")
    reader.take("=")
    value = read_expression(reader)
    reader.take(";")
    return Tree(kind, [name], [value], [])


def read_showing(reader):
    kind = reader.move_on()
    value = read_expression(reader)
    reader.take(";")
    return Tree(kind, [], [value], [])


def read_if(reader):
    reader.take("if")
    condition = read_expression(reader)
    blocks = [read_block(reader)]
    if reader.look() == "else":
        reader.take("else")
        blocks.append(read_block(reader))
    return Tree("if", [], [condition], blocks)


def read_while(reader):
    reader.take("while")
    condition = read_expression(reader)
    return Tree("while", [], [condition], [read_block(reader)])


def read_for(reader):
    reader.take("for")
    name = reader.take("NAME")
    reader.take("in")
    walked = read_expression(reader)
    return Tree("for", [name], [walked], [read_block(reader)])


def read_slider(reader):
    reader.take("slider")
    leaves = [reader.take("NAME")]
    for sign in ("=", "in", ","):
        reader.take(sign)
        leaves.append(read_whole(reader))
    reader.take(";")
    return Tree("slider", leaves, [], [])


def read_whole(reader):
    if reader.look() == "-":
        reader.take("-")
        return -reader.take("NUMBER")
    return reader.take("NUMBER")


def read_choice(reader):
    reader.take("choice")
    leaves = [reader.take("NAME")]
    reader.take("=")
    leaves.append(reader.take("NUMBER"))
    reader.take("in")
    leaves.extend(read_leaves(reader, "QUOTED"))
    reader.take(";")
    return Tree("choice", leaves, [], [])


def read_leaves(reader, kind):
    leaves = [reader.take(kind)]
    while reader.look() == ",":
        reader.take(",")
        leaves.append(reader.take(kind))
    return leaves


def read_expression(reader):
    condition = read_joined(reader, OR_LINE)
    if reader.look() != "?":
        return condition
    reader.take("?")
    first = read_joined(reader, OR_LINE)
    reader.take(":")
    second = read_joined(reader, OR_LINE)
    return Tree("?", [], [condition, first, second], [])


def joins_at(kind, strength):
    return kind in SIDES and SIDES[kind][0] == strength


# The lines OR to PRODUCT are alike but for their signs, so one function reads the line of the given strength.
def read_joined(reader, strength):
    if strength == SIGNED_LINE:
        return read_signed(reader)
    if strength == NOT_LINE and reader.look() == "not":
        reader.take("not")
        return Tree("not", [], [read_joined(reader, COMPARED_LINE)], [])
    tree = read_joined(reader, strength + 1)
    while joins_at(reader.look(), strength):
        sign = reader.move_on()
        right = read_joined(reader, strength + 1)
        tree = Tree(sign, [], [tree, right], [])
        if strength == COMPARED_LINE:
            return tree
    return tree


def read_signed(reader):
    if reader.look() == "-":
        reader.take("-")
        return Tree("minus", [], [read_reached(reader)], [])
    return read_reached(reader)


def read_reached(reader):
    tree = read_simple(reader)
    while reader.look() in ("(", "[", "."):
        tree = read_reach(reader, tree)
    return tree


def read_reach(reader, left):
    sign = reader.move_on()
    if sign == "(":
        return Tree("call", [], [left] + read_listed(reader, ")"), [])
    if sign == "[":
        at = read_expression(reader)
        reader.take("]")
        return Tree("element", [], [left, at], [])
    return Tree("field", [reader.take("NAME")], [left], [])


def read_listed(reader, closing):
    parts = []
    if reader.look() != closing:
        parts.append(read_expression(reader))
        while reader.look() == ",":
            reader.take(",")
            parts.append(read_expression(reader))
    reader.take(closing)
    return parts


def read_simple(reader):
    kind = reader.look()
    if kind in ("NUMBER", "QUOTED", "NAME"):
        return Tree(kind, [reader.take(kind)], [], [])
    if kind in ("yes", "no", "none"):
        return Tree(reader.move_on(), [], [], [])
    if kind == "[":
        reader.take("[")
        return Tree("list", [], read_listed(reader, "]"), [])
    if kind == "(":
        return read_bracketed(reader)
    if kind == "fn":
        return read_function(reader)
    if kind in BUILT_IN:
        return read_built_in(reader)
    raise Fault(NO_PROGRAM, reader.here())


# Behind an opening bracket, no expression has a name with ":" at once behind it: there it's a record.
def read_bracketed(reader):
    reader.take("(")
    if reader.look() == ":":
        reader.take(":")
        reader.take(")")
        return Tree("record", [], [], [])
    if reader.look() == "NAME" and reader.look_behind() == ":":
        return read_record(reader)
    tree = read_expression(reader)
    reader.take(")")
    return tree


def read_record(reader):
    names = [reader.take("NAME")]
    reader.take(":")
    parts = [read_expression(reader)]
    while reader.look() == ",":
        reader.take(",")
        names.append(reader.take("NAME"))
        reader.take(":")
        parts.append(read_expression(reader))
    reader.take(")")
    return Tree("record", names, parts, [])


# The first leaf is the function's name, empty if it has none.
def read_function(reader):
    reader.take("fn")
    leaves = [[]]
    if reader.look() == "NAME":
        leaves = [reader.take("NAME")]
    reader.take("(")
    if reader.look() != ")":
        leaves.extend(read_leaves(reader, "NAME"))
    reader.take(")")
    return Tree("fn", leaves, [], [read_block(reader)])


def read_built_in(reader):
    kind = reader.move_on()
    reader.take("(")
    parts = [read_expression(reader)]
    while len(parts) < BUILT_IN[kind]:
        reader.take(",")
        parts.append(read_expression(reader))
    reader.take(")")
    return Tree(kind, [], parts, [])
