"""The calls on cell texts. Each gives back a list of whole numbers; a refusal is its number alone."""

from celltexts.faults import Fault
from celltexts.reading import read_good
from celltexts.writing import write_program

LONGEST_TEXT = 600

GOOD = 0
TOO_LONG = -1
NOT_GOOD = -2


def fault(text):
    if len(text) > LONGEST_TEXT:
        return [TOO_LONG]
    try:
        read_good(text)
    except Fault as found:
        return [found.number, found.told]
    return [GOOD]


def form(text):
    if len(text) > LONGEST_TEXT:
        return [TOO_LONG]
    try:
        program = read_good(text)
    except Fault:
        return [NOT_GOOD]
    written = write_program(program)
    return [len(written)] + written
