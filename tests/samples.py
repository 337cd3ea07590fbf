"""Values and plans that several tests use."""

from watchtree.plans import SupervisorPlan, WorkerPlan


class EqualToAll:
    """Calls itself equal to everything, and can be neither hashed nor ordered."""

    __hash__ = None

    def __eq__(self, other):
        return True


class OrderedByNobody:
    """Fails when it is compared, hashed, measured, indexed, iterated or tested."""

    __hash__ = None

    def fails(self, *others):
        raise AssertionError("this value is not to be asked anything")

    __eq__ = __ne__ = __lt__ = __le__ = __gt__ = __ge__ = fails
    __len__ = __bool__ = __iter__ = __contains__ = __getitem__ = fails


# Values of each kind that stand where another kind is asked for.
OTHERS = (None, b"", b"a", (), (1,), ("a",), ([],), [], [1], ["a"], {}, {"a": 1}, {1: 1}, set(), {"a"}, object(),
          EqualToAll(), OrderedByNobody(), range(3), len, str, int, tuple)
NO_STRINGS = OTHERS + (True, False, 0, 1, -1, 7)
NO_INTEGERS = OTHERS + (True, False, "", "0", "1", "a")
NO_TUPLES = tuple(value for value in OTHERS if not isinstance(value, tuple)) + (True, False, 0, 1, "", "a", "first")
ALL_KINDS = OTHERS + (True, False, 0, 1, -1, 7, "", "a", "first")

GOOD_WORDS = ("a", "z", "a1", "a_", "b" * 20, "start", "normal", "a_b_0_9", "z9_", "abcdefghijklmnopqrst",
              "uvwxyz0123456789_")
NO_WORDS = ("", "A", "aB", "aZ", "1a", "0", "9", "_a", "_", "a" * 21, "a b", " a", "a ", "a\n", "\na", "a-b", "a.b",
            "a`", "a{", "a/", "a:", "a\x00", "\u00e9", "a\u00e9", "\u0430", "a\u0661", "a\uff11") + NO_STRINGS

TREE_WORDS = ("answer", "back", "ended", "down", "told")
TREE_REASONS = ("shutdown", "refused", "gave_up", "killed", "nobody")
DEED_NAMES = ("own", "sender", "about")


def chain_of(levels, most=0):
    """A plan with so many levels: supervisors with one child each, and a worker on the last one."""
    plan = WorkerPlan(f"w{levels}")
    for level in range(levels - 1, 0, -1):
        plan = SupervisorPlan(f"s{level}", plan, most=most)
    return plan


def workers_of(name, many):
    """So many worker plans with different names."""
    return [WorkerPlan(f"{name}_w{at}") for at in range(many)]


def plan_of(many, name="root"):
    """A supervisor plan with so many plans in it, at most 157, with different names and three levels at most."""
    left = many - 1
    if left <= 12:
        return SupervisorPlan(name, *workers_of(name, left), most=0)
    children = []
    while left > 0:
        here = f"{name}_{len(children)}"
        children.append(SupervisorPlan(here, *workers_of(here, min(left, 13) - 1), most=0))
        left -= min(left, 13)
    return SupervisorPlan(name, *children, most=0)


def scaled(plan, times):
    """A plan in which all ticks are so many times as large."""
    deadline = None if plan.deadline is None else plan.deadline * times
    if isinstance(plan, WorkerPlan):
        return WorkerPlan(plan.name, restart=plan.restart, opening=plan.opening * times, closing=plan.closing * times,
                          deadline=deadline, refused=plan.refused)
    return SupervisorPlan(plan.name, *[scaled(child, times) for child in plan.children], restart=plan.restart,
                          strategy=plan.strategy, most=plan.most, span=plan.span * times, deadline=deadline)
