"""Trees, written in the one form as bytes.

The functions call one another as trees stand within one another, so only trees of good texts are written.
"""

from celltexts.trees import SIDES, strength_of

# The strengths that are wanted where no sign between two parts wants its own.
ANY = 0
CHOSEN = 1
DENIED = 4
REACHED = 9

PERCENT = 37
ESCAPES = {92: (92, 92), 34: (92, 34), 10: (92, 110)}


def spell(signs):
    return [ord(sign) for sign in signs]


def join_pieces(pieces, gap):
    written = []
    for at, piece in enumerate(pieces):
        if at > 0:
            written.extend(spell(gap))
        written.extend(piece)
    return written


def write_program(statements):
    return join_pieces([write_statement(statement) for statement in statements], "\n")


def write_block(statements):
    if len(statements) == 0:
        return spell("{}")
    written = join_pieces([write_statement(statement) for statement in statements], " ")
    return spell("{ ") + written + spell(" }")


def write_statement(tree):
    kind = tree.kind
    if kind in ("let", "set"):
        value = write_expression(tree.parts[0], ANY)
        return spell(kind + " ") + tree.leaves[0] + spell(" = ") + value + spell(";")
    if kind in ("if", "while", "for"):
        return write_blocks(tree)
    if kind == "slider":
        return write_slider(tree)
    if kind == "choice":
        return write_choice(tree)
    return spell(kind + " ") + write_expression(tree.parts[0], ANY) + spell(";")


def write_blocks(tree):
    written = spell(tree.kind + " ")
    if tree.kind == "for":
        written = written + tree.leaves[0] + spell(" in ")
    blocks = join_pieces([write_block(block) for block in tree.blocks], " else ")
    return written + write_expression(tree.parts[0], ANY) + spell(" ") + blocks


def write_slider(tree):
    first = write_number(tree.leaves[1])
    ends = join_pieces([write_number(number) for number in tree.leaves[2:]], ", ")
    return spell("slider ") + tree.leaves[0] + spell(" = ") + first + spell(" in ") + ends + spell(";")


def write_choice(tree):
    first = write_number(tree.leaves[1])
    texts = join_pieces([write_quoted(said) for said in tree.leaves[2:]], ", ")
    return spell("choice ") + tree.leaves[0] + spell(" = ") + first + spell(" in ") + texts + spell(";")


def write_number(number):
    return spell(str(number))


def write_quoted(said):
    written = spell("\"")
    for byte in said:
        written.extend(ESCAPES.get(byte, (byte,)))
    return written + spell("\"")


def write_expression(tree, wanted):
    written = write_bare(tree)
    if wanted > strength_of(tree.kind):
        return spell("(") + written + spell(")")
    return written


def write_bare(tree):
    kind = tree.kind
    if kind in SIDES:
        return write_between(tree)
    if kind == "?":
        return write_chosen(tree)
    if kind == "not":
        return spell("not ") + write_expression(tree.parts[0], DENIED)
    if kind == "minus":
        return spell("-") + write_expression(tree.parts[0], REACHED)
    if kind in ("call", "element", "field"):
        return write_reach(tree)
    return write_simple(tree)


def write_between(tree):
    sides = SIDES[tree.kind]
    left = write_expression(tree.parts[0], sides[1])
    right = write_expression(tree.parts[1], sides[2])
    return left + spell(" ") + write_sign(tree.kind) + spell(" ") + right


def write_sign(kind):
    if kind == "percent":
        return [PERCENT]
    return spell(kind)


def write_chosen(tree):
    condition = write_expression(tree.parts[0], CHOSEN)
    first = write_expression(tree.parts[1], CHOSEN)
    second = write_expression(tree.parts[2], CHOSEN)
    return condition + spell(" ? ") + first + spell(" : ") + second


def write_reach(tree):
    left = write_expression(tree.parts[0], REACHED)
    if tree.kind == "field":
        return left + spell(".") + tree.leaves[0]
    inside = write_listed(tree.parts[1:])
    if tree.kind == "element":
        return left + spell("[") + inside + spell("]")
    return left + spell("(") + inside + spell(")")


def write_listed(parts):
    return join_pieces([write_expression(part, ANY) for part in parts], ", ")


def write_simple(tree):
    kind = tree.kind
    if kind == "NUMBER":
        return write_number(tree.leaves[0])
    if kind == "QUOTED":
        return write_quoted(tree.leaves[0])
    if kind == "NAME":
        return list(tree.leaves[0])
    if kind in ("yes", "no", "none"):
        return spell(kind)
    if kind == "list":
        return spell("[") + write_listed(tree.parts) + spell("]")
    if kind == "record":
        return write_record(tree)
    if kind == "fn":
        return write_function(tree)
    return spell(kind + "(") + write_listed(tree.parts) + spell(")")


def write_record(tree):
    if len(tree.parts) == 0:
        return spell("(:)")
    fields = []
    for name, part in zip(tree.leaves, tree.parts):
        fields.append(name + spell(": ") + write_expression(part, ANY))
    return spell("(") + join_pieces(fields, ", ") + spell(")")


def write_function(tree):
    parameters = join_pieces(tree.leaves[1:], ", ")
    return spell("fn ") + tree.leaves[0] + spell("(") + parameters + spell(") ") + write_block(tree.blocks[0])
