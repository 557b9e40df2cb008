"""Words, names, and the tokens of a text."""

MOST_LETTERS = 8

RESERVED = (
    "all", "anew", "any", "ask", "by", "cls", "count", "delete", "early", "either", "end", "for", "fresh", "has",
    "in", "item", "keep", "key", "late", "len", "list", "now", "or", "others", "part", "quiet", "repeat", "reread",
    "save", "self", "show", "touched", "truth", "update", "walk", "wipe",
)


def is_letter(sign):
    """Whether one character is a letter a to z."""
    return "a" <= sign <= "z"


def is_word(thing):
    """Whether any value is a word: one to eight letters."""
    if not isinstance(thing, str):
        return False
    return 1 <= len(thing) <= MOST_LETTERS and all([is_letter(sign) for sign in thing])


def is_name(thing):
    """Whether any value is a name: a word that is not reserved."""
    return is_word(thing) and thing not in RESERVED


def tokens_of(text):
    """The tokens of a text, as a list of pairs (index of the first character, token)."""
    tokens = []
    at = 0
    while at < len(text):
        end = end_of_token(text, at)
        if text[at] != " ":
            tokens.append((at, text[at:end]))
        at = end
    return tokens


def end_of_token(text, at):
    """The index behind the token that begins at an index: a sequence of letters, or one other character."""
    end = at + 1
    if is_letter(text[at]):
        while end < len(text) and is_letter(text[end]):
            end += 1
    return end
