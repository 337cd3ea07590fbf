"""What a tree tells of its log, and which inputs and logs other trees can have."""

from watchtree.checks import LARGEST_TICK, is_between, is_integer, is_word
from watchtree.errors import AbsentError, BadEntry, BadInput, NoEntry, PlanError, TreeError
from watchtree.plans import is_plan
from watchtree.steps import run_to_entry
from watchtree.trees import Tree

# How many arguments each input has, defaults too. The start of the root is none that a caller gives.
ARGUMENTS = {"add": 2, "ask": 3, "fail": 2, "send": 3, "stop": 0, "take_out": 1}
ITEMS_OF_INPUT = 3
ITEMS_OF_ENTRY = 5


def entries(tree):
    """A generator of the entries of a tree."""
    for entry in list(tree.world.log):
        yield entry


def chain(tree, number):
    """The tuple of the numbers of an entry, of its cause, of the cause of this one, and so on; NoEntry."""
    if not _has_entry(tree.world, number):
        raise NoEntry(number)
    found = [number]
    cause = _cause_of(tree.world, number)
    while cause > 0:
        found.append(cause)
        # The log of a restored tree begins behind some causes.
        cause = _cause_of(tree.world, cause) if _has_entry(tree.world, cause) else 0
    return tuple(found)


def effects(tree, number):
    """The ascending tuple of the numbers of the entries whose chains have the one with this number; NoEntry."""
    if not _has_entry(tree.world, number):
        raise NoEntry(number)
    has_it = {number: True}
    told = []
    for entry in tree.world.log:
        if entry[2] in has_it:
            has_it[entry[0]] = True
            told.append(entry[0])
    return tuple(told)


def inputs(tree):
    """The tuple of (tick, method, arguments) for all inputs but the start."""
    told = [entry for entry in tree.world.log if entry[3] == "input" and entry[4][0] in ARGUMENTS]
    return tuple([(entry[1], entry[4][0], entry[4][1]) for entry in told])


def played(plan, inputs):
    """A tree with these inputs, run to the end of the tick of the last one; BadRoot, BadInput."""
    tree = Tree(plan)
    if not isinstance(inputs, tuple):
        raise BadInput(None)
    for index, item in enumerate(inputs):
        if not _is_input(item) or item[0] < tree.tick:
            raise BadInput(index)
        tree.run(item[0])
        if not _gives(tree, item[1], item[2]):
            raise BadInput(index)
    if len(inputs) > 0:
        tree.run(tree.tick)
    return tree


def standing(plan, log):
    """How many entries of a log, from the first one on, can stand; BadRoot, BadEntry."""
    tree = Tree(plan)
    _check_log(log)
    for index, entry in enumerate(log):
        if index == len(tree.world.log) and not _goes_on(tree, entry):
            return index
        if not _is_same(tree.world.log[index], entry):
            return index
    return len(log)


def _has_entry(world, number):
    """Whether a value is the number of an entry of the log."""
    return is_between(number, world.entries_made - len(world.log) + 1, world.entries_made)


def _cause_of(world, number):
    """The cause of the entry with this number."""
    return world.log[number - world.entries_made - 1][2]


def _is_input(value):
    """Whether a value is a triple of a tick, a method and a tuple of as many arguments as it has."""
    if not isinstance(value, tuple) or len(value) != ITEMS_OF_INPUT:
        return False
    tick, method, arguments = value
    return _is_tick(tick) and _is_call(method, arguments)


def _is_tick(value):
    return is_between(value, 0, LARGEST_TICK)


def _is_call(method, arguments):
    """Whether two values are a method of an input, and a tuple of as many arguments as it has."""
    # Whether it is a string is asked first, as other values may not be hashed.
    if not isinstance(method, str) or method not in ARGUMENTS:
        return False
    return isinstance(arguments, tuple) and len(arguments) == ARGUMENTS[method]


def _gives(tree, method, arguments):
    """Give a tree an input; return whether it is not refused."""
    try:
        _call(tree, method, arguments)
    except (PlanError, TreeError, AbsentError):
        return False
    return True


def _call(tree, method, arguments):
    if method == "add":
        tree.add(*arguments)
    elif method == "ask":
        tree.ask(*arguments)
    elif method == "fail":
        tree.fail(*arguments)
    elif method == "send":
        tree.send(*arguments)
    elif method == "stop":
        tree.stop()
    else:
        tree.take_out(*arguments)


def _check_log(log):
    """Raise BadEntry with the index of the first item that is no entry, or with None if the log is no tuple."""
    if not isinstance(log, tuple):
        raise BadEntry(None)
    for index, item in enumerate(log):
        if not _is_entry(item):
            raise BadEntry(index)


def _is_entry(value):
    """Whether a value is a tuple of an integer, a tick, an integer, a word and a tuple."""
    if not isinstance(value, tuple) or len(value) != ITEMS_OF_ENTRY:
        return False
    number, tick, cause, word, data = value
    return is_integer(number) and _is_tick(tick) and is_integer(cause) and is_word(word) and isinstance(data, tuple)


def _goes_on(tree, entry):
    """Let a tree make its next entry, by the input that an entry tells or else by its agenda; whether it makes one."""
    _, tick, _, word, data = entry
    if word != "input":
        return run_to_entry(tree.world, LARGEST_TICK)
    if tick < tree.tick or len(data) != 2 or not _is_call(data[0], data[1]):
        return False
    # What the agenda makes up to the tick of an input comes ahead of it.
    if run_to_entry(tree.world, tick):
        return True
    tree.run(tick)
    return _gives(tree, data[0], data[1])


def _is_same(made, entry):
    """Whether two values are equal and of the same kind, in all their parts."""
    if isinstance(made, tuple):
        return (isinstance(entry, tuple) and len(made) == len(entry)
                and all([_is_same(one, other) for one, other in zip(made, entry)]))
    if isinstance(made, str):
        return isinstance(entry, str) and made == entry
    if is_integer(made):
        return is_integer(entry) and made == entry
    if isinstance(made, bool):
        return isinstance(entry, bool) and made == entry
    if is_plan(made):
        return is_plan(entry) and made == entry
    return entry is None
