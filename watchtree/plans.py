"""Plans of workers and supervisors, the places in them, and the plans that can be the root of a tree."""

from watchtree.bases import AnyWorker
from watchtree.checks import is_between, is_one_of, is_place_name
from watchtree.errors import BadChild, BadRoot, BadSetting, NoPlace
from watchtree.scripts import is_script

RESTARTS = ("permanent", "transient", "temporary")
STRATEGIES = ("one", "rest", "all")
MOST_TICKS = 10 ** 9
MOST_REFUSED = 100
MOST_RESTARTS = 20
MOST_CHILDREN = 12
MOST_LEVELS = 20
MOST_PLANS = 200
MOST_ROOT_PLANS = 60
MOST_ROOT_LEVELS = 6
MOST_ROOT_PRODUCT = 1000


class WorkerPlan(AnyWorker):
    """The plan of a worker. BadSetting for the first setting that is wrong."""

    def __init__(self, name, *, restart="permanent", opening=0, closing=0, deadline=None, refused=0, script=()):
        _check_settings((
            ("name", is_place_name(name)),
            ("restart", is_one_of(restart, RESTARTS)),
            ("opening", is_between(opening, 0, MOST_TICKS)),
            ("closing", is_between(closing, 0, MOST_TICKS)),
            ("deadline", _is_deadline(deadline)),
            ("refused", is_between(refused, 0, MOST_REFUSED)),
            ("script", is_script(script)),
        ))
        self.name = name
        self.restart = restart
        self.opening = opening
        self.closing = closing
        self.deadline = deadline
        self.refused = refused
        self.script = script

    def __eq__(self, other):
        return (isinstance(other, WorkerPlan) and self.name == other.name and self.restart == other.restart
                and self.opening == other.opening and self.closing == other.closing
                and self.deadline == other.deadline and self.refused == other.refused
                and self.script == other.script)

    def __len__(self):
        return len(plans_in(self))

    def __contains__(self, name):
        return is_one_of(name, names(self))


class SupervisorPlan:
    """The plan of a supervisor. BadSetting for the first setting that is wrong, then BadChild."""

    def __init__(self, name, *children, restart="permanent", strategy="one", most=1, span=10, deadline=None):
        _check_settings((
            ("name", is_place_name(name)),
            ("restart", is_one_of(restart, RESTARTS)),
            ("strategy", is_one_of(strategy, STRATEGIES)),
            ("most", is_between(most, 0, MOST_RESTARTS)),
            ("span", is_between(span, 1, MOST_TICKS)),
            ("deadline", _is_deadline(deadline)),
        ))
        _check_children(children)
        self.name = name
        self.children = children
        self.restart = restart
        self.strategy = strategy
        self.most = most
        self.span = span
        self.deadline = deadline

    def __eq__(self, other):
        return (isinstance(other, SupervisorPlan) and self.name == other.name and self.restart == other.restart
                and self.strategy == other.strategy and self.most == other.most and self.span == other.span
                and self.deadline == other.deadline and self.children == other.children)

    def __len__(self):
        return len(plans_in(self))

    def __contains__(self, name):
        return is_one_of(name, names(self))


def is_plan(value):
    """Whether a value is a plan of a worker or of a supervisor."""
    return isinstance(value, (WorkerPlan, SupervisorPlan))


def _is_deadline(value):
    return value is None or is_between(value, 0, MOST_TICKS)


def _check_settings(checks):
    """Raise BadSetting with the first name beside which no truth stands."""
    for setting, is_right in checks:
        if not is_right:
            raise BadSetting(setting)


def _check_children(children):
    """Raise BadChild with the index of the first child that a supervisor plan cannot have."""
    many = 1
    for index, child in enumerate(children):
        if index == MOST_CHILDREN or not is_plan(child):
            raise BadChild(index)
        many += len(child)
        if many > MOST_PLANS or levels_of(child) + 1 > MOST_LEVELS:
            raise BadChild(index)


def plans_in(plan):
    """The list of the plan and all plans below it, in the order of the tree."""
    found = [plan]
    if isinstance(plan, SupervisorPlan):
        for child in plan.children:
            found.extend(plans_in(child))
    return found


def names(plan):
    """The tuple of the names of the plan and all plans below it, in the order of the tree."""
    return tuple([one.name for one in plans_in(plan)])


def plan_at(plan, place):
    """The first plan with this name; NoPlace."""
    return _way_to(plan, place)[-1]


def path_to(plan, place):
    """The tuple of the names from the plan itself to the first one with this name; NoPlace."""
    return tuple([one.name for one in _way_to(plan, place)])


def _way_to(plan, place):
    """The list of the plans from this one to the first one with this name; NoPlace."""
    if place not in plan:
        raise NoPlace(place)
    way = [plan]
    while way[-1].name != place:
        children = way[-1].children
        way.append(children[_turn_to(children, place)])
    return way


def _turn_to(children, place):
    """The index of the first child in which the name is; it is in one of them."""
    turn = 0
    while place not in children[turn]:
        turn += 1
    return turn


def levels_of(plan):
    """How many levels a plan has, itself being the first one."""
    if isinstance(plan, WorkerPlan):
        return 1
    return 1 + max([levels_of(child) for child in plan.children], default=0)


def greatest_product(plan):
    """The greatest product of most + 1 over the supervisors of a path that begins with the plan."""
    if isinstance(plan, WorkerPlan):
        return 1
    return (plan.most + 1) * max([greatest_product(child) for child in plan.children], default=1)


def _broken_rule(value):
    """The word of the first rule by which a value cannot be the root of a tree, or None."""
    if not isinstance(value, SupervisorPlan):
        return "plan"
    told = names(value)
    if len(set(told)) < len(told):
        return "names"
    if len(told) > MOST_ROOT_PLANS:
        return "size"
    if levels_of(value) > MOST_ROOT_LEVELS:
        return "levels"
    if greatest_product(value) > MOST_ROOT_PRODUCT:
        return "product"
    return None


def check_root(plan):
    """Raise BadRoot with the first rule by which a value cannot be the root of a tree."""
    rule = _broken_rule(plan)
    if rule is not None:
        raise BadRoot(rule)


def is_root(value):
    """Whether a value can be the root of a tree."""
    return _broken_rule(value) is None


def changed(plan, place, **settings):
    """The plan in which the first plan with this name has other settings; NoPlace, BadSetting."""
    if place not in plan:
        raise NoPlace(place)
    return _changed_below(plan, place, settings)


def _changed_below(plan, place, settings):
    if plan.name == place:
        return _with_settings(plan, settings)
    children = list(plan.children)
    turn = _turn_to(children, place)
    children[turn] = _changed_below(children[turn], place, settings)
    return with_children(plan, children)


def with_children(plan, children):
    """A supervisor plan with the settings of this one, and with these children."""
    wanted = _settings_of(plan)
    wanted["children"] = children
    return _supervisor(**wanted)


def _with_settings(plan, settings):
    """The plan with other settings; BadSetting for one that it does not have, then those of making it."""
    wanted = _settings_of(plan)
    for setting in settings:
        if setting not in wanted:
            raise BadSetting(setting)
        wanted[setting] = settings[setting]
    if isinstance(plan, WorkerPlan):
        return WorkerPlan(**wanted)
    wanted["children"] = plan.children
    return _supervisor(**wanted)


def _settings_of(plan):
    """A new dict of the settings of a plan; its children are none."""
    if isinstance(plan, WorkerPlan):
        return {"name": plan.name, "restart": plan.restart, "opening": plan.opening, "closing": plan.closing,
                "deadline": plan.deadline, "refused": plan.refused, "script": plan.script}
    return {"name": plan.name, "restart": plan.restart, "strategy": plan.strategy, "most": plan.most,
            "span": plan.span, "deadline": plan.deadline}


def _supervisor(name, children, restart, strategy, most, span, deadline):
    return SupervisorPlan(name, *children, restart=restart, strategy=strategy, most=most, span=span,
                          deadline=deadline)
