"""All that a tree knows, in records: places, processes, orders, messages, the agenda and the log.

Records name one another by numbers, so that a copy of a world is a copy of its records.
"""


class Place:
    """A place: its plan, how often it was started, and its latest process.

    above is the number of the supervisor's place, below has those of the places of its plan; product is that of
    most + 1 over the supervisors from the root to this place.
    """

    def __init__(self, number, plan, above, level, product):
        self.number = number
        self.plan = plan
        self.above = above
        self.level = level
        self.product = product
        self.below = ()
        self.is_added = False
        self.starts = 0
        self.latest = None
        self.reason = None

    def twin(self):
        """A copy that changes by itself."""
        other = Place(self.number, self.plan, self.above, self.level, self.product)
        other.below = self.below
        other.is_added = self.is_added
        other.starts = self.starts
        other.latest = self.latest
        other.reason = self.reason
        return other


class Worker:
    """A process of a worker that has not ended.

    value, sender and about are those of the message that was taken last (both others are numbers of places), and
    asked is the question that was taken last; questions are those that it took and that are open.
    """

    def __init__(self, number, place, plan, starter):
        self.number = number
        self.place = place
        self.plan = plan
        self.starter = starter
        self.state = "opening"
        self.watchers = []
        self.mode = "first"
        self.is_busy = False
        self.does_trap = False
        self.box = []
        self.value = 0
        self.sender = None
        self.about = None
        self.asked = None
        self.questions = []
        self.links = []
        self.watched = []
        self.timers = []

    def twin(self):
        """A copy that changes by itself."""
        other = Worker(self.number, self.place, self.plan, self.starter)
        other.state = self.state
        other.watchers = list(self.watchers)
        other.mode = self.mode
        other.is_busy = self.is_busy
        other.does_trap = self.does_trap
        other.box = list(self.box)
        other.value = self.value
        other.sender = self.sender
        other.about = self.about
        other.asked = self.asked
        other.questions = list(self.questions)
        other.links = list(self.links)
        other.watched = list(self.watched)
        other.timers = list(self.timers)
        return other


class Supervisor:
    """A process of a supervisor that has not ended.

    awaited is the number of the process for which the first order waits, or None.
    """

    def __init__(self, number, place, plan, starter):
        self.number = number
        self.place = place
        self.plan = plan
        self.starter = starter
        self.state = "opening"
        self.watchers = []
        self.places = []
        self.orders = []
        self.awaited = None
        self.notes = []

    def twin(self):
        """A copy that changes by itself."""
        other = Supervisor(self.number, self.place, self.plan, self.starter)
        other.state = self.state
        other.watchers = list(self.watchers)
        other.places = list(self.places)
        other.orders = list(self.orders)
        other.awaited = self.awaited
        other.notes = list(self.notes)
        return other


class Order:
    """Something that a supervisor has to do; it never changes.

    kind is start, stop, ready, end, mend, add or remove. asker is the number of the process that is told of it, or
    None, and about the number of the place that the message is about then.
    """

    def __init__(self, number, kind, *, place=None, name=None, process=None, reason=None, plan=None, asker=None,
                 about=None):
        self.number = number
        self.kind = kind
        self.place = place
        self.name = name
        self.process = process
        self.reason = reason
        self.plan = plan
        self.asker = asker
        self.about = about


class Message:
    """A message; it never changes.

    sender is the number of a process and home that of its place, or both are None; receiver is the number of a place
    for the kinds send and ask, otherwise of a process; about is the number of a place, or None.
    """

    def __init__(self, kind, sender, home, receiver, word, value, about):
        self.kind = kind
        self.sender = sender
        self.home = home
        self.receiver = receiver
        self.word = word
        self.value = value
        self.about = about


class World:
    """All that a tree knows; cause, first and pending are those of the step that is being executed.

    live has the processes that have not ended, taken the numbers of the places by the names that are taken. counts
    tells how many messages have each status; messages that were final when a tree was restored are not counted.
    """

    def __init__(self):
        self.now = 0
        self.log = []
        self.entries_made = 0
        self.cause = 0
        self.first = None
        self.pending = []
        self.steps = []
        self.deadlines = []
        self.steps_made = 0
        self.places = {}
        self.places_made = 0
        self.taken = {}
        self.live = {}
        self.processes_made = 0
        self.orders_made = 0
        self.messages = {}
        self.messages_made = 0
        self.statuses = {}
        self.counts = {"sent": 0, "waiting": 0, "handled": 0, "dropped": 0}
        self.questions = {}
        self.answers = {}
        self.timers_made = 0

    def twin(self):
        """A copy that changes by itself, between two steps."""
        other = World()
        other.now = self.now
        other.log = list(self.log)
        other.entries_made = self.entries_made
        other.steps = list(self.steps)
        other.deadlines = list(self.deadlines)
        other.steps_made = self.steps_made
        other.places = {number: place.twin() for number, place in self.places.items()}
        other.places_made = self.places_made
        other.taken = dict(self.taken)
        other.live = {number: process.twin() for number, process in self.live.items()}
        other.processes_made = self.processes_made
        other.orders_made = self.orders_made
        other.messages = dict(self.messages)
        other.messages_made = self.messages_made
        other.statuses = dict(self.statuses)
        other.counts = dict(self.counts)
        other.questions = dict(self.questions)
        other.answers = dict(self.answers)
        other.timers_made = self.timers_made
        return other
