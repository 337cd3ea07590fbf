"""Plans, scripts and histories of inputs by chance, always the same for the same seed."""

from random import Random

from watchtree.errors import TreeError
from watchtree.plans import SupervisorPlan, WorkerPlan, is_root, names

RESTARTS = ("permanent", "transient", "temporary")
STRATEGIES = ("one", "rest", "all")
WORDS = ("go", "hop", "run", "sit")
HEARD = WORDS + ("answer", "back", "ended", "down", "told")
MODES = ("first", "second")
REASONS = ("failed", "normal", "crash")


def value_by_chance(chance):
    return chance.choice((0, 1, 7, -3, ("plus", 1), ("plus", -2)))


def deed_by_chance(chance, places, can_add):
    place = chance.choice(places + ("own", "sender", "about"))
    word = chance.choice(WORDS)
    deeds = [
        ("note", word), ("send", place, word, value_by_chance(chance)), ("ask", place, word, value_by_chance(chance)),
        ("ask", place, word, 5), ("reply", value_by_chance(chance)), ("reply", ("plus", 3)),
        ("later", chance.randint(1, 4), word, value_by_chance(chance)), ("cancel", word), ("link", place),
        ("unlink", place), ("monitor", place), ("unmonitor", place), ("trap", chance.random() < 0.7),
        ("mode", chance.choice(MODES)), ("remove", place), ("link", place), ("monitor", place), ("monitor", place),
    ]
    if chance.random() < 0.03:
        return ("end", chance.choice(REASONS))
    if can_add and chance.random() < 0.15:
        name = chance.choice(("extra", "more", "again"))
        return ("add", place, worker_by_chance(chance, name, places, can_add=False))
    return chance.choice(deeds)


def script_by_chance(chance, places, can_add=True):
    rows = []
    for mode in MODES:
        for word in ("start",) + HEARD:
            if chance.random() < (0.8 if word == "start" else 0.5):
                deeds = tuple(deed_by_chance(chance, places, can_add) for _ in range(chance.randint(0, 4)))
                rows.append((mode, word, chance.randint(1, 3), deeds))
    return tuple(rows)


def worker_by_chance(chance, name, places=(), can_add=True):
    """A worker plan; with a script if there are places for it."""
    return WorkerPlan(name, restart=chance.choice(RESTARTS), opening=chance.choice((0, 0, 1, 2)),
                      closing=chance.choice((0, 0, 1, 3)), deadline=chance.choice((None, None, 0, 1, 2)),
                      refused=chance.choice((0, 0, 0, 1, 2)),
                      script=script_by_chance(chance, places, can_add) if places else ())


def plain_worker(chance, name, *_):
    """A worker plan as section 12 asks for."""
    return WorkerPlan(name, restart=chance.choice(("permanent", "transient")), opening=chance.choice((0, 0, 1, 2)),
                      closing=chance.choice((0, 0, 1, 3)), deadline=chance.choice((None, None, 0, 1, 2)))


def supervisor_by_chance(chance, told, levels, make_worker, places, restarts):
    """A supervisor plan with these names, the first one being its own."""
    children = []
    left = list(told[1:])
    while left:
        many = chance.randint(1, len(left)) if levels > 2 and chance.random() < 0.5 else 1
        here, left = left[:many], left[many:]
        if levels > 2 and chance.random() < 0.4:
            children.append(supervisor_by_chance(chance, here, levels - 1, make_worker, places, restarts))
        else:
            children.extend(make_worker(chance, name, places) for name in here)
    return SupervisorPlan(told[0], *children[:12], restart=chance.choice(restarts), strategy=chance.choice(STRATEGIES),
                          most=chance.choice((0, 1, 2, 4)), span=chance.choice((1, 1, 2, 4, 9)),
                          deadline=chance.choice((None, None, 0, 1, 3, 5)))


def root_by_chance(chance, make_worker=worker_by_chance, places=(), restarts=RESTARTS):
    """A plan that can be the root of a tree."""
    while True:
        told = [f"p{at}" for at in range(chance.randint(2, 9))]
        plan = supervisor_by_chance(chance, told, chance.randint(2, 4), make_worker, places, restarts)
        if is_root(plan) and any(isinstance(one, WorkerPlan) for one in all_plans(plan)):
            return plan


def scripted_root(chance):
    """A plan that can be the root of a tree, with scripts."""
    return root_by_chance(chance, places=tuple(f"p{at}" for at in range(5)) + ("extra",))


def plain_root(chance):
    """A plan that can be the root of a tree, as section 12 asks for."""
    return root_by_chance(chance, make_worker=plain_worker, restarts=("permanent", "transient"))


def all_plans(plan):
    """All plans in a plan, in the order of the tree."""
    found = [plan]
    for child in getattr(plan, "children", ()):
        found.extend(all_plans(child))
    return found


def added_by_chance(chance):
    """A plan to be added by the caller."""
    name = chance.choice(("extra", "more", "again"))
    if chance.random() < 0.6:
        return worker_by_chance(chance, name)
    return SupervisorPlan(name, *(worker_by_chance(chance, f"{name}_{at}") for at in range(chance.randint(0, 2))),
                          restart=chance.choice(RESTARTS), strategy=chance.choice(STRATEGIES), most=1, span=3)


def input_by_chance(chance, tree):
    """A pair of the name of a method of a tree and arguments, for an input that may be refused."""
    places = names(tree.plan) + ("extra", "more", "again", "extra_0", "no")
    place = chance.choice(places)
    word = chance.choice(WORDS)
    return chance.choice((
        ("fail", (place, chance.choice(REASONS))), ("fail", (place,)), ("fail", (place,)), ("send", (place, word, 3)),
        ("send", (place, word)), ("ask", (place, word, 4)), ("add", (place, added_by_chance(chance))),
        ("take_out", (place,)),
    ) + ((("stop", ()),) if chance.random() < 0.15 else ()))


def history_by_chance(chance, tree, many):
    """Run a tree with so many inputs; return the list of what was done, pairs of a method and arguments."""
    done = []
    for _ in range(many):
        if chance.random() < 0.6:
            tick = min(tree.tick + chance.choice((0, 1, 1, 2, 5)), 10 ** 12)
            done.append(("run", (tick,)))
        else:
            done.append(input_by_chance(chance, tree))
        do(tree, *done[-1])
    return done


def do(tree, method, arguments):
    """Call a method of a tree; an error of the package is answered by its class and fields."""
    try:
        return getattr(tree, method)(*arguments)
    except (TreeError, LookupError, ValueError) as error:
        return (type(error).__name__, vars(error))


def seeded(seed):
    """A source of chance that is the same for the same seed."""
    return Random(seed)
