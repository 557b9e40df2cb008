"""Rows of programs by themselves: their tokens, what stands in them, and their canonical form."""

from latequestions.words import is_name, tokens_of

# The rows but for buildings, with their kinds and ways. X stands for the name that is bound or that a deed is done to,
# S for the name that a look is at, F for a field.
PATTERNS = (
    ("X = list S", "list", ""),
    ("X = S [ ? ]", "item", ""),
    ("X = S [ ? : ? ]", "part", ""),
    ("len S", "len", ""),
    ("truth S", "truth", ""),
    ("count S", "count", ""),
    ("any S", "any", ""),
    ("has S [ ? ]", "has", ""),
    ("X . F = ?", "set", ""),
    ("fresh X . F = ?", "set", "fresh"),
    ("X . F += ?", "add", ""),
    ("fresh X . F += ?", "add", "fresh"),
    ("show X . F", "show", ""),
    ("fresh show X . F", "show", "fresh"),
    ("save X", "save", ""),
    ("save X touched", "save", "touched"),
    ("save X by F", "save", "by"),
    ("save X by F , F", "save", "by"),
    ("save X by F , F , F", "save", "by"),
    ("reread X", "reread", ""),
    ("delete X", "delete", ""),
    ("update X . F = ?", "update", ""),
    ("update X . F += ?", "raise", ""),
    ("wipe X", "wipe", ""),
    ("others", "others", ""),
    ("for X in S", "walk", ""),
    ("repeat", "repeat", ""),
    ("either", "either", ""),
    ("quiet", "quiet", ""),
    ("or", "or", ""),
    ("end", "end", ""),
)


class Written:
    """One row: its kind and way, its canonical text, its names and fields, and the tokens of its EXPR."""

    def __init__(self, kind, way, canonical, name, source, fields, expr):
        self.kind = kind
        self.way = way
        self.canonical = canonical
        self.name = name
        self.source = source
        self.fields = tuple(fields)
        self.expr = tuple(expr)


def written_row(text, form):
    """The row that a text writes, or None. Its EXPR, and whether the row may stand there, is looked at later."""
    tokens = row_tokens(text)
    for pattern, kind, way in PATTERNS:
        places = pattern.split()
        if fits(tokens, places, form):
            return pattern_row(tokens, places, kind, way, form)
    return building_row(tokens)


def row_tokens(text):
    """The tokens of a row. They are those of a condition, but for `+` with `=` directly behind it: this is one."""
    tokens = []
    for at, token in tokens_of(text):
        if token == "=" and at > 0 and text[at - 1] == "+":
            tokens[-1] = "+="
        else:
            tokens.append(token)
    return tokens


def fits(tokens, places, form):
    """Whether the tokens are as a pattern says."""
    if len(tokens) != len(places):
        return False
    return all([may_be(token, place, form) for token, place in zip(tokens, places)])


def may_be(token, place, form):
    """Whether a token may stand at a place of a pattern."""
    if place == "F":
        return token in form
    if place == "X" or place == "S":
        return is_name(token)
    return token == place


def pattern_row(tokens, places, kind, way, form):
    """The row of tokens that fit a pattern, or None if a field stands twice in it."""
    fields = standing_at("F", tokens, places)
    if len(set(fields)) != len(fields):
        return None
    if kind == "save" and way == "":
        fields = form.fields
    name = "".join(standing_at("X", tokens, places))
    source = "".join(standing_at("S", tokens, places))
    return Written(kind, way, spaced(tokens), name, source, fields, ())


def standing_at(letter, tokens, places):
    """The tokens that stand for a letter of a pattern."""
    return [token for token, place in zip(tokens, places) if place == letter]


def spaced(tokens):
    """The tokens of a row other than a building, with the spaces of the canonical form."""
    text = " ".join(tokens)
    text = text.replace(" . ", ".").replace(" , ", ", ")
    return text.replace(" [ ", "[").replace(" : ", ":").replace(" ]", "]")


def building_row(tokens):
    """The row `Q = EXPR` or `Q = now EXPR`, or None."""
    if len(tokens) < 3 or not is_name(tokens[0]) or tokens[1] != "=":
        return None
    way = "now" if tokens[2] == "now" else ""
    expr = tokens[3:] if way == "now" else tokens[2:]
    head = f"{tokens[0]} = now " if way == "now" else f"{tokens[0]} = "
    return Written("build", way, head + sum_text(expr), tokens[0], "", (), expr)


def sum_text(tokens):
    """An EXPR in canonical form."""
    return "".join([f" {token} " if token == "&" or token == "|" else token for token in tokens])


def bare_row(written):
    """The canonical row without `now`, `fresh`, and `touched`."""
    text = written.canonical
    if written.way == "now":
        return text.replace(" = now ", " = ", 1)
    if written.way == "fresh":
        return text.removeprefix("fresh ")
    if written.way == "touched":
        return text.removesuffix(" touched")
    return text


def turned_row(written):
    """The canonical row that this one is turned into; the same text if it cannot be turned."""
    text = written.canonical
    if written.way != "":
        return bare_row(written)
    if written.kind == "build":
        return text.replace(" = ", " = now ", 1)
    if written.kind == "set" or written.kind == "add" or written.kind == "show":
        return f"fresh {text}"
    if written.kind == "save":
        return f"{text} touched"
    return text
