"""Scripts of workers: which values are deeds and scripts, and which row a script has for a message."""

from watchtree.bases import AnyWorker
from watchtree.checks import is_between, is_given_reason, is_sent_value, is_sent_word, is_word
from watchtree.errors import BadScript

MOST_ROWS = 30
MOST_DEEDS = 8
MOST_WAITING = 200
MOST_WORK = 1000
MOST_TICKS_LATER = 10 ** 9

# For each sort of deed, what the items behind the sort have to be.
DEED_ITEMS = {
    "note": ("word",),
    "send": ("word", "sent word", "value"),
    "ask": ("word", "sent word", "value"),
    "reply": ("value",),
    "later": ("ticks", "sent word", "value"),
    "cancel": ("word",),
    "link": ("word",),
    "unlink": ("word",),
    "monitor": ("word",),
    "unmonitor": ("word",),
    "trap": ("truth",),
    "mode": ("word",),
    "end": ("reason",),
    "add": ("word", "plan"),
    "remove": ("word",),
}


def is_deed(value):
    """Whether a value is a deed."""
    if not isinstance(value, tuple) or len(value) == 0:
        return False
    sort, *items = value
    # Whether it is a string is asked first, as other values may not be hashed.
    if not isinstance(sort, str) or sort not in DEED_ITEMS:
        return False
    kinds = DEED_ITEMS[sort]
    return len(items) == len(kinds) and all([_is_item(kind, item) for kind, item in zip(kinds, items)])


def _is_item(kind, item):
    """Whether an item of a deed is of its kind."""
    if kind == "sent word":
        return is_sent_word(item)
    if kind == "value":
        return _is_deed_value(item)
    if kind == "ticks":
        return is_between(item, 1, MOST_TICKS_LATER)
    if kind == "truth":
        return isinstance(item, bool)
    if kind == "reason":
        return is_given_reason(item)
    if kind == "plan":
        return isinstance(item, AnyWorker) and not _has_add(item.script)
    return is_word(item)


def _is_deed_value(value):
    """Whether a deed can have this value: an integer, or what is added to the value of a message."""
    if not isinstance(value, tuple):
        return is_sent_value(value)
    if len(value) != 2:
        return False
    sign, amount = value
    return isinstance(sign, str) and sign == "plus" and is_sent_value(amount)


def _has_add(script):
    """Whether a script has a deed that adds a plan."""
    return any([deed[0] == "add" for row in script for deed in row[3]])


def _is_row(value):
    """Whether a value is a row of a script."""
    if not isinstance(value, tuple) or len(value) != 4:
        return False
    mode, word, work, deeds = value
    return is_word(mode) and is_word(word) and is_between(work, 1, MOST_WORK) and _are_deeds(deeds)


def _are_deeds(value):
    """Whether a value is a tuple of deeds, and not of too many."""
    return isinstance(value, tuple) and len(value) <= MOST_DEEDS and all([is_deed(deed) for deed in value])


def wrong_row(script):
    """The index of the first row that a script cannot have, or None; BadScript(None) if it is no tuple."""
    if not isinstance(script, tuple):
        raise BadScript(None)
    seen = {}
    for index, row in enumerate(script):
        if index == MOST_ROWS or not _is_row(row) or (row[0], row[1]) in seen:
            return index
        seen[(row[0], row[1])] = True
    return None


def is_script(value):
    """Whether a value is a script."""
    return isinstance(value, tuple) and wrong_row(value) is None


def _check_script(script):
    """Raise BadScript with the index of the first wrong row, or with None if it is no tuple."""
    index = wrong_row(script)
    if index is not None:
        raise BadScript(index)


def row_for(script, mode, word):
    """The row of a script for a mode and a word, or None; BadScript if it is no script."""
    _check_script(script)
    if not is_word(mode) or not is_word(word):
        return None
    return found_row(script, mode, word)


def found_row(script, mode, word):
    """The row of a script for a mode and a word, or None, where all three are known to be right."""
    for row in script:
        if row[0] == mode and row[1] == word:
            return row
    return None


def words_of(script):
    """The ascending tuple of the different words of all rows; BadScript if it is no script."""
    _check_script(script)
    return tuple(sorted({row[1] for row in script}))
