"""Forms of deeds and sayings: tuples of a word and of parts of told kinds."""

from noroadback.base.integers import is_passed
from noroadback.base.words import MAX_WORD, is_bare_row
from noroadback.turns.single import is_move
from noroadback.turns.turners import Turner, is_table

MOST_SIGNS = 8

# The parts that stand behind the word of a deed.
DEEDS = {
    "put": ("name", "turner"),
    "take": ("name",),
    "same": ("name", "name"),
    "behind": ("name", "name", "name"),
    "undone": ("name",),
    "move": ("name", "move"),
    "turned": ("name", "word"),
    "led": ("name", "name"),
}
# Names that these deeds have first need not stand for something.
NAMING = ("put", "same", "behind")
# The parts that stand behind the word of a saying.
SAYINGS = {
    "table": ("name", "table"),
    "stays": ("name", "word"),
    "ring": ("name", "word"),
    "alike": ("name", "name"),
    "unlike": ("name", "name"),
    "order": ("name", "number"),
    "short": ("name", "number"),
}


def is_name(value):
    """Whether the value is a string of one to eight letters from a to z."""
    if not isinstance(value, str) or not 1 <= len(value) <= MOST_SIGNS:
        return False
    return all(["a" <= sign <= "z" for sign in value])


def is_part(letters, kind, value):
    """Whether the value is a part of a kind, for so many letters."""
    if kind == "name":
        return is_name(value)
    if kind == "turner":
        return isinstance(value, Turner) and value.letters == letters
    if kind == "word":
        return is_bare_row(letters, value, MAX_WORD)
    if kind == "move":
        return is_move(letters, value)
    if kind == "table":
        return is_table(value) and len(value) == letters
    return is_passed(value)


def has_form(letters, forms, value):
    """Whether the value is a tuple of a word and of parts as a dict of forms tells."""
    if not isinstance(value, tuple) or value == () or not isinstance(value[0], str):
        return False
    kinds = forms.get(value[0])
    if kinds is None or len(value) != len(kinds) + 1:
        return False
    return all([is_part(letters, kind, part) for kind, part in zip(kinds, value[1:])])


def is_deed(letters, value):
    """Whether the value is a deed."""
    return has_form(letters, dict(DEEDS), value)


def is_saying(letters, value):
    """Whether the value is a saying, with any names."""
    return has_form(letters, dict(SAYINGS), value)


def names_in(forms, value):
    """The list of the names in a deed or a saying, in its sequence."""
    return [part for kind, part in zip(forms[value[0]], value[1:]) if kind == "name"]


def asked_names(deed):
    """The names in a deed that have to stand for something, in its sequence."""
    names = names_in(dict(DEEDS), deed)
    return names[1:] if deed[0] in NAMING else names


def said_names(saying):
    """The names in a saying, in its sequence."""
    return names_in(dict(SAYINGS), saying)
