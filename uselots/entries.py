"""Entries of TABLES: what is one, what sums of several are, how one is written."""

from uselots.kinds import GREATEST, ascends, integer_of, is_between, is_count, is_row, is_text, is_tuple


def is_use(value, below):
    """Whether value is the number of one of below entries."""
    return is_between(value, 0, below - 1)


def is_counted(value):
    """Whether value is a pair of anything and a count."""
    return is_row(value, 2) and is_count(value[1])


def is_looks(value, below):
    """Whether value are LOOKS that name numbers less than below."""
    if not is_tuple(value):
        return False
    if not all([is_counted(item) and is_use(item[0], below) for item in value]):
        return False
    return ascends([use for use, _ in value])


def is_asked(value, below):
    """Whether value is (LOOKS, use) that name numbers less than below."""
    return is_row(value, 2) and is_looks(value[0], below) and is_use(value[1], below)


def is_lot(value, below):
    """Whether value is a LOT that names numbers less than below."""
    if not is_tuple(value):
        return False
    if not all([is_counted(item) and is_asked(item[0], below) for item in value]):
        return False
    return ascends([asked for asked, _ in value])


def is_entry(value, number):
    """Whether value can be the entry with this number in a TABLE."""
    if not is_tuple(value) or len(value) < 2 or not is_text(value[0]):
        return False
    if value[0] == "number":
        return len(value) == 2 and is_between(value[1], -GREATEST, GREATEST)
    if value[0] == "function":
        return len(value) == 2 and is_lot(value[1], number)
    if value[0] == "pair":
        return len(value) == 3 and is_looks(value[1], number) and is_looks(value[2], number)
    return False


def names_of(entry):
    """The numbers that an entry names, some of them perhaps several times."""
    if entry[0] == "number":
        return []
    if entry[0] == "pair":
        return [use for looks in entry[1:] for use, _ in looks]
    asked = [key for key, _ in entry[1]]
    return [use for _, use in asked] + [use for looks, _ in asked for use, _ in looks]


def held_entry(value):
    """What tells that nothing is made of a value, of the kind that comes first in it."""
    if value[0] == "number":
        return ("number", value[1])
    return ("function", ()) if value[0] == "function" else ("pair", (), ())


def called_entry(looks, use):
    """What is made of a function by one call."""
    return ("function", (((looks, use), 1),))


def half_entry(kind, use):
    """What first, or second, makes of a pair."""
    looks = ((use, 1),)
    return ("pair", looks, ()) if kind == "first" else ("pair", (), looks)


def is_held(entry):
    """Whether an entry tells that nothing is made."""
    return entry[0] == "number" or not any([bool(made) for made in entry[1:]])


def width(entry):
    """How many pairs of something and its count stand in an entry."""
    wide = sum([len(made) for made in entry[1:]]) if entry[0] != "number" else 0
    if entry[0] == "function":
        wide = wide + sum([len(asked[0]) for asked, _ in entry[1]])
    return wide


def gathered(counted):
    """Pairs of a thing and a count, ascending, the counts of one thing added."""
    counts = {}
    for thing, count in counted:
        counts[thing] = counts.get(thing, 0) + count
    return tuple(sorted(counts.items()))


def renumbered(entry, numbers):
    """The entry with the number numbers[use] in the place of each use that it names."""
    if entry[0] == "number":
        return entry
    if entry[0] == "pair":
        return ("pair", renamed(entry[1], numbers), renamed(entry[2], numbers))
    lot = [((renamed(asked[0], numbers), numbers[asked[1]]), count) for asked, count in entry[1]]
    return ("function", gathered(lot))


def renamed(looks, numbers):
    return gathered([(numbers[use], count) for use, count in looks])


def total(entries):
    """The sum of pairs of an entry and a count; None if they have none."""
    if not entries:
        return None
    first, _ = entries[0]
    if not all([entry[0] == first[0] for entry, _ in entries]):
        return None
    if first[0] == "number":
        return first if all([entry == first for entry, _ in entries]) else None
    sums = []
    for at in range(1, len(first)):
        sums.append(gathered([(thing, many * count) for entry, count in entries for thing, many in entry[at]]))
    return (first[0], *sums)


def rest(entry, taken):
    """What is left of an entry without taken, another one; None if it does not hold this."""
    if entry[0] != taken[0]:
        return None
    if entry[0] == "number":
        return entry if entry == taken else None
    left = [lessened(entry[at], taken[at]) for at in range(1, len(entry))]
    return None if None in left else (entry[0], *left)


def lessened(counted, taken):
    """Counted things without those taken; None if some of these are more."""
    counts = {thing: count for thing, count in counted}
    for thing, count in taken:
        if counts.get(thing, 0) < count:
            return None
        counts[thing] = counts[thing] - count
    return tuple([(thing, counts[thing]) for thing, _ in counted if counts[thing] > 0])


def entry_text(number, entry):
    """The line of the entry with this number."""
    words = [str(number), entry[0]]
    if entry[0] == "number":
        words.append(str(entry[1]))
    elif entry[0] == "pair":
        words = words + looks_words(entry[1]) + ["/"] + looks_words(entry[2])
    else:
        words = words + lot_words(entry[1])
    return " ".join(words)


def looks_words(looks):
    return [f"{use}*{count}" for use, count in looks]


def lot_words(lot):
    words = []
    for asked, count in lot:
        looks, use = asked
        if words:
            words.append(";")
        words = words + looks_words(looks) + [">", str(use), ":", str(count)]
    return words


def entry_in(line):
    """What the words of a line tell, with None in the place of each number that is none; None if nothing."""
    words = line.split(" ")
    kind = words[1] if len(words) > 1 else ""
    told = words[2:]
    if kind == "number" and len(told) == 1:
        return ("number", integer_of(told[0]))
    if kind == "pair" and "/" in told:
        at = told.index("/")
        return ("pair", looks_in(told[:at]), looks_in(told[at + 1:]))
    if kind == "function":
        return ("function", tuple([calls_in(group) for group in groups_in(told)]))
    return None


def groups_in(words):
    """Words parted by the word `;`, none if there are no words."""
    groups = [[]] if words else []
    for word in words:
        if word == ";":
            groups.append([])
        else:
            groups[-1].append(word)
    return groups


def calls_in(words):
    """What one of a LOT's words tell; None if they have not its form."""
    if len(words) < 4 or words[-4] != ">" or words[-2] != ":":
        return None
    return ((looks_in(words[:-4]), integer_of(words[-3])), integer_of(words[-1]))


def looks_in(words):
    looks = []
    for word in words:
        use, _, count = word.partition("*")
        looks.append((integer_of(use), integer_of(count)))
    return tuple(looks)
