"""Forms of tables, and conditions on the looks of their rows."""

from latequestions.errors import BadCondition, BadForm, NoField, NoFilter, NoLook
from latequestions.kinds import is_integer
from latequestions.sums import SumReader
from latequestions.words import is_name, tokens_of


class Form:
    """The fields of a table, each with its filters. Forms are made by `Form.read` and `Form.of`."""

    MOST_FIELDS = 3
    MOST_FILTERS = 3

    def __init__(self, parts):
        """Parts are the pairs (field, tuple of its filters) of a right form, all ascending."""
        self.parts = tuple(parts)
        self.fields = tuple([field for field, names in self.parts])
        self.possible = looks_of([names for field, names in self.parts])

    @classmethod
    def read(cls, text):
        """The form of a text such as `price:cheap,dear stock`."""
        if not isinstance(text, str):
            raise BadForm(text)
        pairs = [written_part(word) for word in text.split(" ")]
        if not are_parts(pairs):
            raise BadForm(text)
        return cls(ordered_parts(pairs))

    @classmethod
    def of(cls, **fields):
        """The form with a field for each keyword, whose value is a list or tuple of its filters."""
        pairs = [(field, fields[field]) for field in fields]
        if not are_parts(pairs):
            raise BadForm(None)
        return cls(ordered_parts(pairs))

    def __str__(self):
        return " ".join([part_text(field, names) for field, names in self.parts])

    def __eq__(self, other):
        return isinstance(other, Form) and self.parts == other.parts

    def __len__(self):
        return len(self.fields)

    def __contains__(self, x):
        return x in self.fields

    def filters_of(self, field=None):
        """The filters of a field, by default of all fields, ascending."""
        if field is None:
            return tuple(sorted([name for at, names in self.parts for name in names]))
        for at, names in self.parts:
            if at == field:
                return names
        raise NoField(field)

    def field_of(self, name):
        """The field at which a filter looks."""
        for field, names in self.parts:
            if name in names:
                return field
        raise NoFilter(name)

    def mask_count(self, field):
        """The number of masks of a field."""
        if field not in self:
            raise NoField(field)
        return 1 << len(self.filters_of(field))

    def all_looks(self):
        """All looks, ascending."""
        yield from self.possible

    def holds(self, name, look):
        """Whether a filter holds in a look."""
        field = self.field_of(name)
        if not self.is_look(look):
            raise NoLook(look)
        number = 1 << self.filters_of(field).index(name)
        return (look[self.fields.index(field)] & number) > 0

    def is_look(self, thing):
        """Whether any value is a look; the masks are asked first, as (True,) is equal to (1,)."""
        if not isinstance(thing, tuple) or not all([is_integer(mask) for mask in thing]):
            return False
        return thing in self.possible


class Condition:
    """Which looks of a form are taken. Conditions are made by `Condition.read`, `Condition.of` and the signs."""

    def __init__(self, form, looks):
        self.form = form
        self.looks = tuple([look for look in form.possible if look in looks])

    @classmethod
    def read(cls, text, form, *, names=None):
        """The condition of a text; names is a dict from further names to the conditions that they stand for."""
        if not isinstance(text, str):
            raise BadCondition(-1)
        filters = {name: filter_condition(name, form) for name in form.filters_of()}
        given = {} if names is None else names
        known = {**filters, **given, "all": cls(form, form.possible)}
        return SumReader(tokens_of(text), len(text), known).read_whole()

    @classmethod
    def of(cls, form, looks):
        """The condition that takes these looks."""
        for look in looks:
            if not form.is_look(look):
                raise NoLook(look)
        return cls(form, looks)

    def __str__(self):
        if self.looks == self.form.possible:
            return "all"
        if self.looks == ():
            return "~all"
        return " | ".join([product_text(self.form, look) for look in self.looks])

    def __eq__(self, other):
        return isinstance(other, Condition) and self.form == other.form and self.looks == other.looks

    def __len__(self):
        return len(self.looks)

    def __bool__(self):
        return bool(self.looks)

    def __contains__(self, x):
        return self.form.is_look(x) and x in self.looks

    def __and__(self, other):
        return Condition(self.form, [look for look in self.looks if look in other.looks])

    def __or__(self, other):
        return Condition(self.form, [*self.looks, *other.looks])

    def __invert__(self):
        return Condition(self.form, [look for look in self.form.possible if look not in self.looks])

    def implies(self, other):
        """Whether the other condition takes each look that this one takes."""
        return all([look in other.looks for look in self.looks])


def written_part(word):
    """The pair (field, filters) that a word of a form's text writes."""
    field, colon, names = word.partition(":")
    if colon == "":
        return field, []
    return field, names.split(",")


def are_parts(parts):
    """Whether pairs (field, filters) of any values make a form."""
    fields = [field for field, names in parts]
    filters = [name for field, names in parts for name in names]
    if not 1 <= len(fields) <= Form.MOST_FIELDS or len(filters) > Form.MOST_FILTERS:
        return False
    if not all([is_name(name) for name in fields + filters]):
        return False
    return len(set(fields + filters)) == len(fields + filters)


def ordered_parts(parts):
    """The pairs (field, filters), fields and filters ascending."""
    return sorted([(field, tuple(sorted(names))) for field, names in parts])


def part_text(field, names):
    """A field with its filters, as the text of a form has it."""
    if names == ():
        return field
    return f"{field}:{','.join(names)}"


def looks_of(filters):
    """All looks, ascending; filters are those of each field, by ascending field."""
    looks = [()]
    for names in filters:
        looks = [(*look, mask) for look in looks for mask in range(1 << len(names))]
    return tuple(looks)


def filter_condition(name, form):
    """The condition that takes the looks in which a filter holds."""
    return Condition(form, [look for look in form.possible if form.holds(name, look)])


def product_text(form, look):
    """The product of all filters that takes this look alone."""
    return " & ".join([name if form.holds(name, look) else f"~{name}" for name in form.filters_of()])
