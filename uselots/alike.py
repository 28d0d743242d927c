"""Parts of plain programs side by side: do they do the same, for the same steps, whatever calls them?"""

from uselots.asking import asked, checked_plain
from uselots.binding import binding_words, changes_in, first_word
from uselots.checks import check_way
from uselots.errors import Alike, BadNumbers, BadProgram, BadWay, Endless, NoPart, NotPlain, OtherArity, TooMany
from uselots.kinds import ascends, is_between, is_row, is_text, is_tuple
from uselots.texts import joined_text, parts_text
from uselots.workers import Worker

MOST_ASKS = 2000
MOST_NUMBERS = 8
GREATEST_NUMBER = 99


def table(program, name, numbers, way):
    """(arguments, result, steps, looks) of a part for all arguments out of numbers."""
    plain = checked_plain(program)
    check_named(plain, name)
    check_numbers(numbers)
    check_parts_way(program, way)
    return rows_of(Worker(plain, binding_words(program, way), MOST_ASKS), name, numbers)


def check_named(plain, name):
    if not is_text(name) or name not in plain.heads:
        raise NoPart(name)


def check_numbers(numbers):
    fine = is_tuple(numbers) and 1 <= len(numbers) <= MOST_NUMBERS
    if not fine or not all([is_between(number, -GREATEST_NUMBER, GREATEST_NUMBER) for number in numbers]):
        raise BadNumbers(numbers)
    if not ascends(numbers):
        raise BadNumbers(numbers)


def check_parts_way(program, way):
    """BadWay for what is no way, and for one with changes in the line run."""
    check_way(program, way)
    if changes_in(way, "run"):
        raise BadWay(way)


def rows_of(worker, name, numbers):
    """The rows of a part: Endless, TooMany."""
    rows = []
    for arguments in argument_rows(len(worker.plain.heads[name]), numbers):
        answer = worker.answer((name, arguments))
        rows.append((arguments, answer.result, answer.cost, answer.looks))
    return tuple(rows)


def argument_rows(many, numbers):
    """All tuples of so many of numbers, the first one slowest."""
    rows = [()]
    for _ in range(many):
        rows = [(*row, number) for row in rows for number in numbers]
    return rows


def both_tables(program, name, other, numbers, way):
    """The rows of both parts, those for the same arguments together."""
    plain = checked_plain(program)
    check_named(plain, name)
    check_named(plain, other)
    if len(plain.heads[name]) != len(plain.heads[other]):
        raise OtherArity(other)
    check_numbers(numbers)
    check_parts_way(program, way)
    worker = Worker(plain, binding_words(program, way), MOST_ASKS)
    ones = rows_of(worker, name, numbers)
    return list(zip(ones, rows_of(worker, other, numbers)))


def alike(program, name, other, numbers, way):
    """("alike",), or ("apart", arguments, word): the first arguments for which the rows are unlike, and in what."""
    return alike_in(both_tables(program, name, other, numbers, way), first_word(way))


def alike_in(rows, word):
    for one, its in rows:
        unlike = first_wrong(
            one[1] == its[1],
            one[2] == its[2],
            seen_by(word, one[3]) == seen_by(word, its[3]),
        )
        if unlike is not None:
            return ("apart", one[0], unlike)
    return ("alike",)


def first_wrong(result, steps, looks):
    """The first word of these that does not hold; None if all do."""
    for held, told in ((result, "result"), (steps, "steps"), (looks, "looks")):
        if not held:
            return told
    return None


def seen_by(word, looks):
    """What counts of looks where arguments are bound by this word."""
    if word == "name":
        return looks
    if word == "need":
        return tuple([min(many, 1) for many in looks])
    return ()


def never_dearer(program, name, other, numbers, way):
    """("never",), or ("apart", arguments, word): the first arguments for which name takes more than other."""
    rows = both_tables(program, name, other, numbers, way)
    word = first_word(way)
    for one, its in rows:
        unlike = first_wrong(
            one[1] == its[1],
            one[2] <= its[2],
            all([many <= others for many, others in zip(seen_by(word, one[3]), seen_by(word, its[3]))]),
        )
        if unlike is not None:
            return ("apart", one[0], unlike)
    return ("never",)


def surrounding(program, name, other, numbers, way):
    """Two texts, unlike in the part's name alone, that tell parts apart that are not alike: Alike."""
    arguments = apart_for(program, name, other, numbers, way)
    for plus in [None] + list(range(len(arguments))):
        # Looks may make up for steps where both are unlike: not if one argument takes more steps than a number does.
        given = [f"plus {number} 0" if at == plus else str(number) for at, number in enumerate(arguments)]
        ones, others = [" ".join(["call"] * len(given) + [its] + given) for its in (name, other)]
        if tells_apart(program, way, ones, others):
            return (ones, others)
    return None


def apart_for(program, name, other, numbers, way):
    """The first arguments for which the parts are not alike: Alike."""
    told = alike(program, name, other, numbers, way)
    if told == ("alike",):
        raise Alike(other)
    return told[1]


def tells_apart(program, way, one, other):
    """Whether asked tells unlike numbers, or unlike many steps, of the texts of two Es."""
    told = [asked_of(program, way, text) for text in (one, other)]
    if None in told:
        return False
    return told[0] != told[1]


def asked_of(program, way, text):
    """(END, steps) of an E with the program's parts, as asked tells it; None if it tells nothing of it."""
    try:
        its = asked(joined_text(parts_text(program), text), way, MOST_ASKS)
    except (BadProgram, NotPlain, Endless, TooMany):
        return None
    return its.end, its.steps


def shows_surrounding(program, name, other, numbers, way, value):
    """Whether any value is what surrounding may tell: Alike."""
    apart_for(program, name, other, numbers, way)
    if not is_row(value, 2) or not all([is_text(text) for text in value]):
        return False
    ones, others = [text.split(" ") for text in value]
    if len(ones) != len(others):
        return False
    if [(here, there) for here, there in zip(ones, others) if here != there] != [(name, other)]:
        return False
    return tells_apart(program, way, *value)
