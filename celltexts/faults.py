"""What is wrong with a text."""

FORBIDDEN_BYTE = 1
WRONG_TOKEN = 2
DEEP_BRACKET = 3
NO_PROGRAM = 4
DEEP_PROGRAM = 5


class Fault(Exception):
    # told: the fault's place, or the depth where the program is too deep.
    def __init__(self, number, told):
        self.number = number
        self.told = told
