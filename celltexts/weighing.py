"""How many statements and expressions a program has, and how many opening brackets stand among tokens."""

from celltexts.scanning import OPENING


# The statements' number, then the expressions'. Each tree counts those that it is directly made of; the program's own
# statements, which are in no tree, are counted ahead.
def count_trees(program):
    statements = len(program)
    expressions = 0
    waiting = list(program)
    while len(waiting) > 0:
        tree = waiting.pop()
        expressions += len(tree.parts)
        waiting.extend(tree.parts)
        for block in tree.blocks:
            statements += len(block)
            waiting.extend(block)
    return [statements, expressions]


def count_opening(tokens):
    return len([token for token in tokens if token.kind in OPENING])
