"""Books of looks: which looks keep an answer, and which ask again."""

from latequestions.errors import BadBook, NoLook


class Book:
    """The way of each look, and whether questions are asked late or early."""

    LOOKS = ("walk", "list", "len", "truth", "count", "any", "has", "item", "part")
    WAYS = ("keep", "ask", "anew")

    def __init__(self, built="late", **ways):
        if not is_built(built):
            raise BadBook(built)
        for keyword in sorted(ways):
            if keyword not in Book.LOOKS:
                raise NoLook(keyword)
        for look in Book.LOOKS:
            if look in ways and ways[look] not in Book.WAYS:
                raise BadBook(ways[look])
        self.built = built
        self.order = Book.LOOKS
        self.chosen = {look: ways[look] if look in ways else usual_way(look) for look in Book.LOOKS}

    @classmethod
    def usual(cls):
        """The late book in which the first four looks keep and the others ask."""
        return cls()

    @classmethod
    def plain(cls):
        """The usual book, but early."""
        return cls("early")

    @classmethod
    def fresh(cls):
        """The late book in which each look asks anew."""
        ways = {look: "anew" for look in Book.LOOKS}
        return cls("late", **ways)

    @classmethod
    def read(cls, text):
        """The book of exactly this text."""
        if not isinstance(text, str):
            raise BadBook(text)
        built, *parts = text.split(" ")
        if not is_built(built) or len(parts) != len(Book.LOOKS):
            raise BadBook(text)
        ways = {}
        for look, part in zip(Book.LOOKS, parts):
            word, colon, way = part.partition(":")
            if word != look or way not in Book.WAYS:
                raise BadBook(text)
            ways[look] = way
        return cls(built, **ways)

    def __getitem__(self, at):
        if at not in Book.LOOKS:
            raise NoLook(at)
        return self.chosen[at]

    def __iter__(self):
        return iter(self.order)

    def __str__(self):
        return " ".join([self.built] + [f"{look}:{self.chosen[look]}" for look in Book.LOOKS])

    def __eq__(self, other):
        return isinstance(other, Book) and self.built == other.built and self.chosen == other.chosen

    def turned(self, look, way):
        """A book with this way of the look, and otherwise like this one."""
        if look not in Book.LOOKS:
            raise NoLook(look)
        ways = {**self.chosen, look: way}
        return Book(self.built, **ways)

    def unlike(self, other):
        """The looks that have another way in the other book."""
        return tuple([look for look in Book.LOOKS if self[look] != other[look]])


def is_built(thing):
    """Whether any value says when questions are asked."""
    return thing == "late" or thing == "early"


def usual_way(look):
    """The way of a look in the usual book: walking, listing, measuring and testing keep the answer."""
    return "keep" if look in ("walk", "list", "len", "truth") else "ask"
