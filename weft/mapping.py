"""Mapping: how edits of programs and of woven texts lead back to the document."""

from weft.errors import Apart, MadeLine, TooLong, Unfit
from weft.fates import DROP, KEEP, edited, is_touched
from weft.lines import is_code, is_prose
from weft.places import first_lines
from weft.tangling import MOST_LINES, indent_of, tangle, texts_of
from weft.weaving import MARGIN, weave


def apply(document, fates):
    """Return the document to which fates are applied."""
    found = []
    for at, line in enumerate(document):
        if at in fates:
            found.extend(fated(line, fates[at]))
        else:
            found.append(line)
    return tuple(found)


def fated(line, fate):
    """Return the list of the lines to which its fate leads a line."""
    _, change, behind = fate
    kind = "prose" if line[0] == "prose" else "code"
    added = [(kind, text) for text in behind]
    if change == KEEP:
        return [line] + added
    if change == DROP:
        return added
    return [(line[0], change[1])] + added


def program_fates(document, root, edits):
    """Return the fates to which edits of the program of a root are mapped."""
    return fates_of_lines(document, tangle(document, root), edits)


def fates_of_lines(document, program, edits):
    """Return the fates to which edits of program lines are mapped."""
    said = sayings(document, program, edits)
    check_length(program, edits)
    return fates_of(said)


def sayings(document, program, edits):
    """Return the dict from document lines to what edits of program lines say of them."""
    starts = {at: True for at in first_lines(document)}
    said = {}
    first_at = {}
    for at, program_line in enumerate(program):
        saying = saying_of(document, starts, at, program_line, edits[at])
        line = program_line[1]
        if line not in said:
            said[line] = saying
            first_at[line] = at
        elif said[line] != saying:
            raise Apart(at, first_at[line])
    return said


def saying_of(document, starts, at, program_line, edit):
    """Return what the edit of the program line at an index says of its document line.

    The dict starts has the first lines of all sections.
    """
    _, line, path = program_line
    ahead, change, _ = edit
    if ahead != () and line not in starts:
        raise Unfit(at, "place")
    # In a program that is not folded, no line comes from a reference.
    if document[line][0] == "use" and change != KEEP:
        raise Unfit(at, "fixed")
    indentation = indent_of(document, path)
    for text in texts_in(edit):
        check_text(at, text, indentation, "indent")
    return without_margin(document[line], edit, indentation)


def check_length(program, edits):
    """Check that the edited program has no more lines than a program can have."""
    if len(edited(texts_of(program), edits)) > MOST_LINES:
        raise TooLong()


def fates_of(said):
    """Return the fates that follow from what is said of the lines of a document."""
    fates = {}
    for line in sorted(said):
        ahead, change, behind = said[line]
        if ahead != ():
            fates[line - 1] = ((), KEEP, ahead)
        fate = ((), change, behind)
        if is_touched(fate):
            fates[line] = fate
    return fates


def texts_in(edit):
    """Return the texts of an edit: those ahead, the other text, those behind."""
    ahead, change, behind = edit
    return ahead + change[1:] + behind


def check_text(at, text, margin, what):
    """Check that a text is empty, or code behind a margin of so many spaces.

    A text without the margin is called unfit by the word `what`.
    """
    spaces = " " * margin
    if text != "" and not text.startswith(spaces):
        raise Unfit(at, what)
    if text != "" and text == spaces:
        raise Unfit(at, "blank")
    if not is_code(text[margin:]):
        raise Unfit(at, "reference")


def without_margin(line, edit, margin):
    """Return an edit as one of the document's line: texts lose so many signs.

    A change that gives code or prose the text that it has counts as none.
    """
    ahead, change, behind = edit
    if change != KEEP and change != DROP:
        change = ("text", change[1][margin:])
    if line[0] in ("code", "prose") and change == ("text", line[1]):
        change = KEEP
    return (cut(ahead, margin), change, cut(behind, margin))


def cut(texts, margin):
    """Return a tuple of texts without the first signs of each one."""
    return tuple([text[margin:] for text in texts])


def woven_fates(document, edits):
    """Return the fates to which edits of the woven text are mapped."""
    fates = {}
    for at, (_, line) in enumerate(weave(document)):
        if not is_touched(edits[at]):
            continue
        if line is None:
            raise MadeLine(at)
        check_woven(at, document[line], edits[at])
        margin = 0 if document[line][0] == "prose" else MARGIN
        fate = without_margin(document[line], edits[at], margin)
        if is_touched(fate):
            fates[line] = fate
    if apply(document, fates) == ():
        raise Unfit(0, "empty")
    return fates


def check_woven(at, line, edit):
    """Check the edit of the woven line at an index, which the document's line gives."""
    ahead, change, _ = edit
    if ahead != ():
        raise Unfit(at, "place")
    if line[0] in ("head", "use") and change != KEEP:
        raise Unfit(at, "fixed")
    for text in texts_in(edit):
        if line[0] != "prose":
            check_text(at, text, MARGIN, "kind")
        elif not is_prose(text):
            raise Unfit(at, "kind")
