"""Expressions as words: read into nodes, one for each place at which an E begins."""

from uselots.kinds import integer_of, is_name

# How many Es stand straight within an E that begins with this word.
ARITIES = {"fun": 1, "call": 2, "let": 2, "plus": 2, "less": 2, "pick": 3, "pair": 2, "first": 1, "second": 1}
BINDERS = ("fun", "let")
LINE_WORDS = ("part", "run")
DEEPEST = 30


class Node:
    """An E where it stands in its line.

    `sign` is its word; `kind` is "number", "name" (bound around it), "part",
    or for all others the word itself; `named` is the NAME that it binds, or "".
    """

    def __init__(self, place, sign, outer):
        self.place = place
        self.sign = sign
        self.kind = sign
        self.named = ""
        self.outer = outer
        self.within = []
        self.binder = None
        self.level = 1 if outer is None else outer.level + 1


def is_free(word):
    """Whether a part or something bound may be called so."""
    return is_name(word) and word not in ARITIES and word not in LINE_WORDS


def read_expression(name, words, start):
    """The nodes of the E of line name that is the words from start on; None if they are none."""
    nodes = []
    waiting = []
    at = start
    while at < len(words):
        outer = waiting[-1] if waiting else None
        node = read_node((name, at), words, outer)
        if node is None or (nodes and outer is None):
            return None
        nodes.append(node)
        hang(node, waiting)
        at = at + 2 if node.named else at + 1
    if waiting or not nodes:
        return None
    for node in nodes:
        if node.kind == "name":
            bind(node)
    return nodes


def read_node(place, words, outer):
    """The node that begins at place, as yet without those within it; None if none can."""
    _, at = place
    node = Node(place, words[at], outer)
    if node.level > DEEPEST:
        return None
    if node.sign in ARITIES:
        if node.sign in BINDERS:
            node.named = words[at + 1] if at + 1 < len(words) else ""
            return node if is_free(node.named) else None
        return node
    if is_free(node.sign):
        node.kind = "name"
        return node
    node.kind = "number"
    return node if is_written(node.sign) else None


def is_written(word):
    """Whether a word is an integer that may stand in a text."""
    if len(word) > 3:
        return False
    number = integer_of(word)
    return number is not None and -99 <= number <= 99


def hang(node, waiting):
    """Puts node within the last of those that wait for Es, and takes off those that have all."""
    if waiting:
        waiting[-1].within.append(node)
    waiting.append(node)
    while waiting and len(waiting[-1].within) == ARITIES.get(waiting[-1].kind, 0):
        waiting.pop()


def bind(node):
    """Finds the innermost fun or let that binds a NAME; without one it can only be a part's."""
    below = node
    above = node.outer
    while above is not None and node.binder is None:
        # A let binds its NAME in its last E alone; a fun has but one.
        if above.named == node.sign and above.within[-1] == below:
            node.binder = above
        below = above
        above = above.outer
    if node.binder is None:
        node.kind = "part"
