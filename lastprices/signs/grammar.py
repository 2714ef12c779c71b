"""The texts of patterns: which ones there are, and how they are read.

A reader makes something of a pattern. It tells what it makes of nothing, and puts what it makes of a run of letters, or
of a repeated part, behind what is made already.
"""

from lastprices.base.words import LETTERS

OTHER_SIGNS = "()#"


def is_formed(text):
    """Whether a string is a pattern, however long and deep."""
    if text == "" or text.strip(LETTERS + OTHER_SIGNS) != "":
        return False
    # Of these two signs none stands without the other one.
    rest = text.replace(")#", "")
    if ")" in rest or "#" in rest or "()" in text:
        return False
    return depth_of(text) is not None


def depth_of(text):
    """The greatest number of parts that are nested, None if the parentheses do not belong together."""
    deepest = 0
    depth = 0
    for sign in text:
        if sign == "(":
            depth = depth + 1
            deepest = max(deepest, depth)
        elif sign == ")":
            depth = depth - 1
            if depth < 0:
                return None
    return deepest if depth == 0 else None


def parts_of(text):
    """The tuple of the texts of the repeated parts of a pattern, in the order in which their `#` stand."""
    begins = []
    parts = []
    for at, sign in enumerate(text):
        if sign == "(":
            begins.append(at + 1)
        elif sign == ")":
            parts.append(text[begins.pop():at])
    return tuple(parts)


def letters_in(text):
    """The letters of a pattern, each as often as it stands there, as a string."""
    return text.replace("(", "").replace(")#", "")


def weight_of(text):
    """The number of the letters of a pattern, each counted twice for each part around it."""
    weight = 0
    each = 1
    for sign in text:
        if sign == "(":
            each = each * 2
        elif sign == "#":
            each = each // 2
        elif sign != ")":
            weight = weight + each
    return weight


def read_pattern(text, parts, reader):
    """What a reader makes of a pattern, by its text and the texts of its parts."""
    made = [reader.begun()]
    closed = 0
    for word in text.replace("(", " ( ").replace(")#", " ) ").split():
        if word == "(":
            made.append(reader.begun())
        elif word == ")":
            part = made.pop()
            made.append(reader.with_part(made.pop(), part, parts[closed]))
            closed = closed + 1
        else:
            made.append(reader.with_run(made.pop(), word))
    return made[0]
