"""Weaving: the text for readers that a document tells."""

from weft.pieces import sections

MARGIN = 4


def weave(document):
    """Return the list of the woven lines of a document."""
    numbers = numbers_by_piece(document)
    made = made_lines(document, numbers)
    woven = []
    number = 0
    for at, line in enumerate(document):
        if line[0] == "head":
            number += 1
        woven.append((woven_text(line, number, numbers), at))
        woven.extend([(text, None) for text in made.get(at, [])])
    woven.extend([(text, None) for text in index_texts(numbers)])
    return woven


def woven_text(line, number, numbers):
    """Return the woven text of a line; number is that of the last section that has begun."""
    margin = " " * MARGIN
    if line[0] == "head":
        return f"[{number}] {line[1]}"
    if line[0] == "use":
        spaces = " " * line[1]
        target = numbers[line[2]][0] if line[2] in numbers else "?"
        return f"{margin}{spaces}<{line[2]} {target}>"
    if line[0] == "code" and line[1] != "":
        return margin + line[1]
    return line[1]


def numbers_by_piece(document):
    """Return the dict from the names of all pieces to the numbers of their sections."""
    numbers = {}
    for number, (name, _, _) in enumerate(sections(document), start=1):
        numbers.setdefault(name, []).append(number)
    return numbers


def users_by_name(document):
    """Return the dict from used names to the sections that use them, each once, in order."""
    users = {}
    for number, (_, head, end) in enumerate(sections(document), start=1):
        for line in document[head + 1:end]:
            if line[0] == "use":
                add_section(users, line[2], number)
    return users


def add_section(numbers, key, number):
    """Add the number of a section to those of a key, once; the sections come in order."""
    own = numbers.setdefault(key, [])
    if own == [] or own[-1] != number:
        own.append(number)


def made_lines(document, numbers):
    """Return the dict from last lines of sections to the made texts behind them."""
    users = users_by_name(document)
    following = following_numbers(numbers)
    made = {}
    for number, (name, _, end) in enumerate(sections(document), start=1):
        texts = []
        if number == numbers[name][0] and name in users:
            texts.append(f"    (used in {listed(users[name])})")
        if number in following:
            texts.append(f"    (goes on in {following[number]})")
        made[end - 1] = texts
    return made


def following_numbers(numbers):
    """Return the dict from the numbers of sections to the next ones of their pieces."""
    following = {}
    for own in numbers.values():
        for number, later in zip(own, own[1:]):
            following[number] = later
    return following


def index_texts(numbers):
    """Return the made texts at the end of a woven text."""
    if numbers == {}:
        return []
    return [""] + [f"{name}: {listed(numbers[name])}" for name in sorted(numbers)]


def listed(numbers):
    """Return the text that tells some numbers."""
    return ", ".join([str(number) for number in numbers])
