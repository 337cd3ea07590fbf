"""Tells integers, words and the like from all other values, of whatever kind they are."""

LARGEST_VALUE = 10 ** 12
LARGEST_TICK = 10 ** 12
MOST_SIGNS = 20
LETTERS = "abcdefghijklmnopqrstuvwxyz"
SIGNS = "abcdefghijklmnopqrstuvwxyz0123456789_"

# Deeds name the places of their own process and message by these, so no plan has such a name.
DEED_NAMES = ("own", "sender", "about")
# Messages that the tree sends itself have these words, so nobody else sends them.
TREE_WORDS = ("answer", "back", "ended", "down", "told")
# Processes end with these reasons by themselves, so nobody else gives them.
TREE_REASONS = ("shutdown", "refused", "gave_up", "killed", "nobody")


def is_integer(value):
    """Whether a value is an int and not a truth."""
    return isinstance(value, int) and not isinstance(value, bool)


def is_between(value, low, high):
    """Whether a value is an integer from low to high."""
    return is_integer(value) and low <= value <= high


def is_one_of(value, words):
    """Whether a value is one of these strings."""
    # Values of other kinds are not compared: they may call themselves equal to a string.
    return isinstance(value, str) and value in words


def is_word(value):
    """Whether a value is a string of 1 to 20 small letters, digits and _ that begins with a letter."""
    if not isinstance(value, str) or not 1 <= len(value) <= MOST_SIGNS:
        return False
    return value[0] in LETTERS and all([sign in SIGNS for sign in value])


def is_place_name(value):
    """Whether a plan can have this name."""
    return is_word(value) and value not in DEED_NAMES


def is_sent_word(value):
    """Whether a word can be sent by a deed or a caller."""
    return is_word(value) and value not in TREE_WORDS


def is_sent_value(value):
    """Whether a message can have this value."""
    return is_between(value, -LARGEST_VALUE, LARGEST_VALUE)


def is_given_reason(value):
    """Whether a deed or a caller can let a process end with this reason."""
    return is_word(value) and value not in TREE_REASONS
