"""The errors of the package: three base classes, and a class for each kind of failure."""


class PlanError(ValueError):
    """Something that is given is not as it has to be."""


class TreeError(RuntimeError):
    """A tree cannot do what it is asked for as it stands."""


class AbsentError(LookupError):
    """Something that is asked for is not there."""


class BadSetting(PlanError):
    """A setting of a plan is wrong, or is none of this plan."""

    def __init__(self, setting):
        self.setting = setting


class BadChild(PlanError):
    """A child is no plan, or one with which a plan would be too large."""

    def __init__(self, index):
        self.index = index


class BadRoot(PlanError):
    """A plan cannot be the root of a tree, by the rule with this word."""

    def __init__(self, rule):
        self.rule = rule


class BadText(PlanError):
    """A line of a text, or the text itself, tells no plan."""

    def __init__(self, line):
        self.line = line


class BadTick(PlanError):
    """A value is no tick from the present one on."""

    def __init__(self, value):
        self.value = value


class BadReason(PlanError):
    """A value is no reason that a caller can give."""

    def __init__(self, value):
        self.value = value


class BadScript(PlanError):
    """A row of a script is wrong; None if there is no script at all."""

    def __init__(self, index):
        self.index = index


class BadWord(PlanError):
    """A value is no word that a caller can send."""

    def __init__(self, value):
        self.value = value


class BadValue(PlanError):
    """A value is none that a message can have."""

    def __init__(self, value):
        self.value = value


class BadEntry(PlanError):
    """An item of a log is no entry; None if there is no log at all."""

    def __init__(self, index):
        self.index = index


class BadInput(PlanError):
    """An item is no input, or a refused one; None if there are no inputs at all."""

    def __init__(self, index):
        self.index = index


class Over(TreeError):
    """The tree is over."""

    def __init__(self):
        # Without this method the class would take any arguments.
        pass


class NotRunning(TreeError):
    """The process of a place does not run."""

    def __init__(self, place):
        self.place = place


class NotSupervisor(TreeError):
    """A place is not that of a supervisor."""

    def __init__(self, place):
        self.place = place


class NotWorker(TreeError):
    """A place is not that of a worker."""

    def __init__(self, place):
        self.place = place


class NotQuiet(TreeError):
    """The tree is not quiet."""

    def __init__(self):
        # Without this method the class would take any arguments.
        pass


class NoPlace(AbsentError):
    """There is no place with this name."""

    def __init__(self, place):
        self.place = place


class NoMessage(AbsentError):
    """There is no message with this number."""

    def __init__(self, message):
        self.message = message


class NoEntry(AbsentError):
    """There is no entry with this number."""

    def __init__(self, entry):
        self.entry = entry
