"""Elder lines of parts that were exchanged amid a run: what they are called, and machines at work on them."""

from uselots.binding import first_word
from uselots.expressions import Node
from uselots.kinds import is_text

MARK = "'"


def elder_name(name):
    """What a line is called once it is exchanged."""
    return name + MARK


def elder_place(place, name):
    """The PLACE once the line of part name is exchanged."""
    line, number = place
    # Lines that are elder ones already get one mark more.
    return (elder_name(line), number) if line.rstrip(MARK) == name else place


def elder_way(way, name):
    """The way once the line of part name is exchanged."""
    if is_text(way):
        return way
    word, changes = way
    return (word, tuple(sorted([(elder_place(place, name), its) for place, its in changes])))


def exchange(machine, program, way, name):
    """Gives a machine the program's line for part name; what steps made so far stays that of the elder line."""
    twins = {}
    funs = {}
    for line in machine.funs:
        if line.rstrip(MARK) == name:
            twins.update(elder_nodes(machine.funs[line], name))
            funs[elder_name(line)] = twins[machine.funs[line]]
        else:
            funs[line] = machine.funs[line]
    funs[name] = program.nodes[(name, 2)]
    machine.funs = funs
    words = {elder_place(place, name): machine.words[place] for place in machine.words}
    for place in program.bindings:
        if place[0] == name:
            words[place] = first_word(way)
    machine.words = words
    machine.nodes = [twins.get(node, node) for node in machine.nodes]
    for step, node in enumerate(machine.nodes):
        # What a part's NAME made is of the line that it had then.
        if node.kind == "part":
            made = machine.memory[step]
            machine.memory[step] = twins.get(made, made)
    due, *rest = machine.pending
    machine.pending = (twins.get(due, due), *rest)


def elder_nodes(root, name):
    """By the nodes of the line whose fun is root the same ones of this line as an elder one."""
    twins = {}
    waiting = [root]
    while waiting:
        node = waiting.pop()
        twin = Node(elder_place(node.place, name), node.sign, twins.get(node.outer))
        twin.kind = node.kind
        twin.named = node.named
        twin.binder = twins.get(node.binder)
        twins[node] = twin
        waiting.extend(node.within)
    for node in twins:
        twin = twins[node]
        twin.within = [twins[inner] for inner in node.within]
    return twins
