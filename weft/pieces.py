"""Pieces: their sections, their lines and the references between them."""

from weft.errors import Missing, NoPiece, Ring


def sections(document):
    """Return the list of the sections as tuples (name, head, end), in order."""
    heads = [at for at, line in enumerate(document) if line[0] == "head"]
    return [(document[head][1], head, section_end(document, head)) for head in heads]


def section_end(document, head):
    """Return the index of the line behind the last line of the section with this head."""
    end = head + 1
    while end < len(document) and document[end][0] in ("code", "use"):
        end += 1
    return end


def lines_by_piece(document):
    """Return the dict from the names of all pieces to the lists of their lines."""
    found = {}
    for name, head, end in sections(document):
        found.setdefault(name, []).extend(list(range(head + 1, end)))
    return found


def uses_among(document, lines):
    """Return the list of (line, name) for each reference among some lines."""
    return [(at, document[at][2]) for at in lines if document[at][0] == "use"]


def piece_names(document):
    """Return the list of the names of all pieces, in the order of their first heads."""
    return list(lines_by_piece(document))


def piece_lines(document, name):
    """Return the list of the indexes of the lines of a piece."""
    return lines_by_piece(document).get(name, [])


def uses_of(document, name):
    """Return the list of (line, name) for each reference of a piece, in order."""
    return uses_among(document, piece_lines(document, name))


def users_of(document, name):
    """Return the list of the lines of all references to a piece."""
    return [at for at, line in enumerate(document) if line[0] == "use" and line[2] == name]


def closure(document, root):
    """Return the list of the pieces that a root needs, in the order of their first visits."""
    begun, _ = walk(document, root)
    return begun


def walk(document, root):
    """Visit all pieces that a root needs.

    Returns the list of their names in the order in which their visits begin,
    and the list in the order in which the visits end.
    """
    pieces = lines_by_piece(document)
    if root not in pieces:
        raise NoPiece(root)
    uses = {name: uses_among(document, pieces[name]) for name in pieces}
    begun = [root]
    ended = []
    # The walk keeps its own stack, as a row of pieces can be longer than Python's.
    path = [root]
    places = [0]
    on_path = {root: True}
    while path:
        name = path[-1]
        if places[-1] == len(uses[name]):
            ended.append(name)
            on_path[name] = False
            path.pop()
            places.pop()
            continue
        line, used = uses[name][places[-1]]
        places[-1] += 1
        if used not in uses:
            raise Missing(line, used)
        if used not in on_path:
            begun.append(used)
            on_path[used] = True
            path.append(used)
            places.append(0)
        elif on_path[used]:
            raise Ring(tuple(path[path.index(used):]))
    return begun, ended
