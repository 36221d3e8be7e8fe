"""Records: sets of named fields that never change."""

from growingrecords.errors import BadName, FieldThere, NoField, Shared

LONGEST_NAME = 30


def is_name(text):
    """True if the string is a name of a field, otherwise False."""
    return 1 <= len(text) <= LONGEST_NAME and all(["a" <= letter <= "z" for letter in text])


def extends(large, small):
    """True if the first value is the second one, with perhaps more fields on any level."""
    if not isinstance(large, Record) or not isinstance(small, Record):
        return large == small
    for name in small:
        if name not in large or not extends(large[name], small[name]):
            return False
    return True


def value_size(value):
    """The number of fields of a value on all levels."""
    return value.size if isinstance(value, Record) else 0


class Record:
    """A set of named fields; made by `make`, `of` and by other records."""

    def __init__(self, fields):
        # str tells that these are strings; they are strings already.
        names = sorted([str(name) for name in fields])
        self.names = tuple(names)
        self._fields = {name: fields[name] for name in names}
        # Records often hold one record several times: adding up known sizes does not walk through it again.
        self._size = len(names) + sum([value_size(fields[name]) for name in names])

    @staticmethod
    def make(fields):
        """The record with the fields of a dict, in which further dicts may stand."""
        made = {}
        for name, value in fields.items():
            if not is_name(name):
                raise BadName(name)
            made[name] = Record.make(value) if isinstance(value, dict) else value
        return Record(made)

    @classmethod
    def of(cls, **fields):
        """The record with these fields."""
        return cls.make(fields)

    @property
    def size(self):
        """The number of fields on all levels."""
        return self._size

    def plain(self):
        """A dict with the fields in ascending order, on all levels."""
        told = {}
        for name, value in self._fields.items():
            told[name] = value.plain() if isinstance(value, Record) else value
        return told

    def put(self, name, value):
        """This record with a field, in place of an earlier one of that name."""
        if not is_name(name):
            raise BadName(name)
        return Record({**self._fields, name: value})

    def without(self, *names):
        """This record without the fields of these names."""
        return Record({name: value for name, value in self._fields.items() if name not in names})

    def only(self, *names):
        """This record with the fields of these names only."""
        return Record({name: value for name, value in self._fields.items() if name in names})

    def renamed(self, old, new):
        """This record with another name for a field."""
        if old not in self._fields:
            raise NoField(old)
        if not is_name(new):
            raise BadName(new)
        rest = self.without(old)
        if new in rest:
            raise FieldThere(new)
        return rest.put(new, self._fields[old])

    def paths(self):
        """Yields the tuple of names that leads to each field, on all levels."""
        for name in self.names:
            yield (name,)
            value = self._fields[name]
            if isinstance(value, Record):
                for rest in value.paths():
                    yield (name, *rest)

    def __or__(self, other):
        return Record({**self._fields, **other._fields})

    def __add__(self, other):
        for name in self.names:
            if name in other._fields:
                raise Shared(name)
        return self | other

    def __sub__(self, other):
        return Record({name: value for name, value in self._fields.items() if name not in other._fields})

    def __and__(self, other):
        return Record({name: value for name, value in self._fields.items() if name in other._fields})

    def __eq__(self, other):
        return isinstance(other, Record) and self._size == other._size and self._fields == other._fields

    def __le__(self, other):
        return all([name in other._fields and self._fields[name] == other._fields[name] for name in self.names])

    def __contains__(self, name):
        return name in self._fields

    def __len__(self):
        return len(self._fields)

    def __getitem__(self, name):
        if name not in self._fields:
            raise NoField(name)
        return self._fields[name]

    def __iter__(self):
        return iter(self.names)

    def __str__(self):
        told = []
        for name, value in self._fields.items():
            told.append(f"{name}: {value}")
        inner = ", ".join(told)
        return f"{{{inner}}}"
