"""Texts of programs, read line by line."""

from uselots.errors import BadProgram
from uselots.expressions import is_free, read_expression
from uselots.kinds import is_text

MOST_WORDS = 120
MOST_PARTS = 12


class Line:
    """A line of a program: the name of its part, or "run", its words as they stand, its nodes."""

    def __init__(self, name, told, nodes):
        self.name = name
        self.told = told
        self.nodes = nodes
        self.names = [node.named for node in nodes if node.named]


def read_program(text):
    """The Lines of a text; BadProgram if it is no program's."""
    if not is_text(text):
        raise BadProgram(0)
    lines = []
    for number, told in enumerate(text.split("\n"), start=1):
        line = read_line(told)
        if line is None or not can_stand(line, lines):
            raise BadProgram(number)
        lines.append(line)
    if lines[-1].name != "run":
        raise BadProgram(len(lines) + 1)
    names = [line.name for line in lines[:-1]]
    for number, line in enumerate(lines, start=1):
        if not all([node.sign in names for node in line.nodes if node.kind == "part"]):
            raise BadProgram(number)
    return lines


def read_line(told):
    """The Line with these words, looked at by itself; None if it is none."""
    words = told.split(" ")
    if len(words) > MOST_WORDS:
        return None
    if words[0] == "run":
        name, start = "run", 1
    elif words[0] == "part" and len(words) > 2 and is_free(words[1]) and words[2] == "fun":
        name, start = words[1], 2
    else:
        return None
    nodes = read_expression(name, words, start)
    return None if nodes is None else Line(name, told, nodes)


def can_stand(line, ahead):
    """Whether line can stand behind the Lines ahead of it."""
    names = [other.name for other in ahead]
    if "run" in names or line.name in names:
        return False
    if line.name != "run" and len(names) == MOST_PARTS:
        return False
    if line.name in line.names or any([line.name in other.names for other in ahead]):
        return False
    return not any([name in names for name in line.names])
