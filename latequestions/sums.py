"""Reading a SUM: the rules by which conditions are written."""

from latequestions.errors import BadCondition

MOST_TOKENS = 60
MOST_LEVELS = 8


class SumReader:
    """Reads one SUM from tokens, from left to right, and tells its condition.

    `tokens` are pairs (index, token), `end` is the index that stands for the end of the text, `known` is a dict from
    the words that may stand as parts to their conditions.
    """

    def __init__(self, tokens, end, known):
        self.tokens = list(tokens)
        self.end = end
        self.known = dict(known)
        self.at = 0
        self.depth = 0

    def read_whole(self):
        """The condition of all tokens together."""
        taken = self.read_sum()
        if self.ahead() != "":
            raise BadCondition(self.place())
        return taken

    def read_sum(self):
        taken = self.read_product()
        while self.ahead() == "|":
            self.at += 1
            taken = taken | self.read_product()
        return taken

    def read_product(self):
        taken = self.read_part()
        while self.ahead() == "&":
            self.at += 1
            taken = taken & self.read_part()
        return taken

    def read_part(self):
        token = self.ahead()
        if token == "~" or token == "(":
            return self.read_level(token)
        if token not in self.known:
            raise BadCondition(self.place())
        self.at += 1
        return self.known[token]

    def read_level(self, sign):
        """What stands behind a `~` or a `(`, one level deeper, with the sign itself."""
        if self.depth == MOST_LEVELS:
            raise BadCondition(self.place())
        self.at += 1
        self.depth += 1
        if sign == "~":
            taken = ~self.read_part()
        else:
            taken = self.read_sum()
            self.pass_closing()
        self.depth -= 1
        return taken

    def pass_closing(self):
        if self.ahead() != ")":
            raise BadCondition(self.place())
        self.at += 1

    def ahead(self):
        """The next token, "" at the end. A sixty-first token is wrong, whatever it is."""
        if self.at == len(self.tokens):
            return ""
        if self.at == MOST_TOKENS:
            raise BadCondition(self.place())
        return self.tokens[self.at][1]

    def place(self):
        """The index of the next token in the text."""
        if self.at == len(self.tokens):
            return self.end
        return self.tokens[self.at][0]
