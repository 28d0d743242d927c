"""The lines that deeds at a bench are told by: written, and read again."""

from uselots.kinds import integer_of, is_text


def place_text(place):
    """A PLACE as its name and its number."""
    return f"{place[0]} {place[1]}"


def way_text(way):
    """A WAY as its word, and behind it the PLACE and the word of each change."""
    if is_text(way):
        return way
    word, changes = way
    return " ".join([word] + [f"{place_text(place)} {its}" for place, its in changes])


def number_in(told):
    """What is told behind go and back; like all of these None if it has not its form."""
    number = integer_of(told)
    return None if number is None else (number,)


def line_in(told):
    name, blank, line = told.partition(" ")
    return (name, line) if blank else None


def text_in(told):
    return (told,)


def place_in(told):
    words = told.split(" ")
    if len(words) != 2:
        return None
    number = integer_of(words[1])
    return None if number is None else ((words[0], number),)


def way_in(told):
    word, *words = told.split(" ")
    if len(words) % 3 != 0:
        return None
    changes = []
    for at in range(0, len(words), 3):
        number = integer_of(words[at + 1])
        if number is None:
            return None
        changes.append(((words[at], number), words[at + 2]))
    return ((word, tuple(changes)),) if changes else (word,)


def do_go(bench, most):
    return str(bench.go(most))


def do_back(bench, many):
    bench.back(many)


def do_line(bench, name, line):
    bench.line(name, line)


def do_expression(bench, text):
    bench.expression(text)


def do_bind(bench, way):
    bench.bind(way)


def do_learn(bench):
    return str(bench.learn())


def do_watch(bench, place):
    bench.watch(place)


def do_unwatch(bench, place):
    bench.unwatch(place)


# By the first word of a line what reads all behind the blank that follows it.
FORMS = {
    "go": number_in,
    "back": number_in,
    "line": line_in,
    "expression": text_in,
    "bind": way_in,
    "watch": place_in,
    "unwatch": place_in,
}
DEEDS = {
    "go": do_go,
    "back": do_back,
    "line": do_line,
    "expression": do_expression,
    "bind": do_bind,
    "learn": do_learn,
    "watch": do_watch,
    "unwatch": do_unwatch,
}


def deed_in(line):
    """(word, arguments) of the line of a deed; None if it has none of their forms."""
    if line == "learn":
        return ("learn", ())
    word, blank, told = line.partition(" ")
    if not blank or word not in FORMS:
        return None
    form = FORMS[word]
    arguments = form(told)
    return None if arguments is None else (word, arguments)


def do_deed(bench, deed):
    """Does at a bench what deed_in tells; returns what it answers, if that is more than that it is done."""
    word, arguments = deed
    action = DEEDS[word]
    return action(bench, *arguments)
