"""The texts of plans: a line for each plan, in the order of the tree, indented by its level."""

from watchtree.errors import BadSetting, BadText
from watchtree.plans import MOST_CHILDREN, MOST_LEVELS, MOST_PLANS, SupervisorPlan, WorkerPlan, with_children

INDENT = "  "
DIGITS = "0123456789"
MOST_DIGITS = 10
WORDS_OF_LINE = 7
# No setting of a plan can have this value.
NO_NUMBER = -1


class Row:
    """A line that was read: its plan still without children, and the rows of these."""

    def __init__(self, plan):
        self.plan = plan
        self.below = []


def plan_text(plan):
    """The text of a plan without scripts."""
    return "\n".join(_lines_of(plan, ""))


def _lines_of(plan, indent):
    lines = [indent + " ".join(_words_of(plan))]
    if isinstance(plan, SupervisorPlan):
        for child in plan.children:
            lines.extend(_lines_of(child, indent + INDENT))
    return lines


def _words_of(plan):
    deadline = "-" if plan.deadline is None else str(plan.deadline)
    if isinstance(plan, WorkerPlan):
        return ["worker", plan.name, plan.restart, str(plan.opening), str(plan.closing), deadline, str(plan.refused)]
    return ["supervisor", plan.name, plan.restart, plan.strategy, str(plan.most), str(plan.span), deadline]


def read_plan(text):
    """The plan of a text; BadText with the number of the first wrong line, or with 0 if it is no string."""
    if not isinstance(text, str):
        raise BadText(0)
    # The rows from the first one to the latest one: each is the latest one with its level.
    way = []
    for number, line in enumerate(text.split("\n"), 1):
        body = line.lstrip(" ")
        depth = _depth_of(len(line) - len(body))
        plan = _plan_of(body.split(" "))
        if plan is None or number > MOST_PLANS or not _can_stand(way, depth):
            raise BadText(number)
        row = Row(plan)
        way = way[:depth] + [row]
        if depth > 0:
            way[depth - 1].below.append(row)
    return _built(way[0])


def _depth_of(spaces):
    """How many levels so many spaces are below the first one, or None."""
    return spaces // 2 if spaces % 2 == 0 else None


def _can_stand(way, depth):
    """Whether a line so many levels below the first one can stand behind the lines with these latest rows."""
    if depth is None or depth >= MOST_LEVELS:
        return False
    if depth == 0 or depth > len(way):
        return depth == len(way)
    above = way[depth - 1]
    return isinstance(above.plan, SupervisorPlan) and len(above.below) < MOST_CHILDREN


def _plan_of(words):
    """The plan without children that the words of a line tell, or None."""
    if len(words) != WORDS_OF_LINE:
        return None
    try:
        return _made_of(words)
    except BadSetting:
        return None


def _made_of(words):
    if words[0] == "worker":
        return WorkerPlan(words[1], restart=words[2], opening=_number_of(words[3]), closing=_number_of(words[4]),
                          deadline=_deadline_of(words[5]), refused=_number_of(words[6]))
    if words[0] == "supervisor":
        return SupervisorPlan(words[1], restart=words[2], strategy=words[3], most=_number_of(words[4]),
                              span=_number_of(words[5]), deadline=_deadline_of(words[6]))
    return None


def _number_of(word):
    """The integer that a word tells without needless zeros, or NO_NUMBER."""
    # Longer ones are greater than any setting, and Python does not read the longest ones.
    if not 1 <= len(word) <= MOST_DIGITS or any([sign not in DIGITS for sign in word]):
        return NO_NUMBER
    if word[0] == "0" and len(word) > 1:
        return NO_NUMBER
    return int(word)


def _deadline_of(word):
    return None if word == "-" else _number_of(word)


def _built(row):
    """The plan of a row with all below it."""
    if isinstance(row.plan, WorkerPlan):
        return row.plan
    return with_children(row.plan, [_built(below) for below in row.below])
