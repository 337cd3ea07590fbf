"""What a tree tells of its messages, and of what its workers wait for."""

from watchtree.checks import is_integer
from watchtree.errors import NoMessage, NotWorker
from watchtree.places import place_called, process_at
from watchtree.plans import WorkerPlan
from watchtree.posts import first_fitting, is_idle
from watchtree.worlds import Worker

# The words of the messages by which a question ends.
ENDS_OF_QUESTIONS = ("answer", "back")


def status_of(tree, number):
    """The status of the message with this number: sent, waiting, handled or dropped; NoMessage."""
    if not is_integer(number) or number not in tree.world.statuses:
        raise NoMessage(number)
    return tree.world.statuses[number]


def question_of(tree, number):
    """What became of the question with this number: open, answered or returned; NoMessage."""
    if not is_integer(number) or number not in tree.world.questions:
        raise NoMessage(number)
    return tree.world.questions[number]


def answer_of(tree, number):
    """The value of the answer to the caller's question with this number, or None if there is none; NoMessage."""
    question_of(tree, number)
    if tree.world.messages[number].sender is not None:
        raise NoMessage(number)
    return tree.world.answers.get(number)


def counts(tree):
    """The tuple of how many messages are sent, waiting, handled and dropped."""
    told = tree.world.counts
    return (told["sent"], told["waiting"], told["handled"], told["dropped"])


def box(tree, place):
    """The tuple of the pairs (word, value) of the messages that wait for a worker, in order; NoPlace, NotWorker."""
    worker = _worker_at(tree, place)
    if worker is None:
        return ()
    waiting = [tree.world.messages[number] for number in worker.box]
    return tuple([(message.word, message.value) for message in waiting])


def mode_of(tree, place):
    """The mode of a worker, or None without a process; NoPlace, NotWorker."""
    worker = _worker_at(tree, place)
    return None if worker is None else worker.mode


def is_busy(tree, place):
    """Whether a worker is busy, or None without a process; NoPlace, NotWorker."""
    worker = _worker_at(tree, place)
    return None if worker is None else worker.is_busy


def does_trap(tree, place):
    """Whether a worker traps, or None without a process; NoPlace, NotWorker."""
    worker = _worker_at(tree, place)
    return None if worker is None else worker.does_trap


def links_of(tree, place):
    """The tuple of the numbers of the processes to which a worker is joined; NoPlace, NotWorker."""
    worker = _worker_at(tree, place)
    return () if worker is None else tuple(worker.links)


def watched_by(tree, place):
    """The tuple of the numbers of the processes that a worker watches; NoPlace, NotWorker."""
    worker = _worker_at(tree, place)
    return () if worker is None else tuple(worker.watched)


def timers_of(tree, place):
    """The tuple of (tick of the arrival, word, value) for the timers of a worker; NoPlace, NotWorker.

    They are ordered by ticks, then as they were made.
    """
    worker = _worker_at(tree, place)
    if worker is None:
        return ()
    ordered = sorted([(tick, number, word, value) for number, tick, word, value in worker.timers])
    return tuple([(tick, word, value) for tick, _, word, value in ordered])


def hangs_on(tree, place):
    """The other place on which a place hangs, or None; NoPlace."""
    found = place_called(tree.world, place)
    return _hangs_on(tree.world, found, _open_questions(tree.world))


def rings(tree):
    """The ascending tuple of all rings of places that hang on one another, each begun with its least place."""
    asked = _open_questions(tree.world)
    hanging = {}
    for name, number in tree.world.taken.items():
        other = _hangs_on(tree.world, tree.world.places[number], asked)
        if other is not None:
            hanging[name] = other
    found = [_ring_from(hanging, name) for name in sorted(hanging)]
    return tuple([ring for ring in found if len(ring) > 0 and ring[0] == min(ring)])


def _worker_at(tree, place):
    """The process of a worker's place that has not ended, or None; NoPlace, NotWorker."""
    found = place_called(tree.world, place)
    if not isinstance(found.plan, WorkerPlan):
        raise NotWorker(place)
    return process_at(tree.world, found.number)


def _open_questions(world):
    """The list of the numbers of the questions that are open."""
    return [number for number in world.questions if world.questions[number] == "open"]


def _hangs_on(world, place, asked):
    """The name of the other place on which a place hangs, or None; asked has the numbers of the open questions."""
    worker = process_at(world, place.number)
    if not isinstance(worker, Worker) or not is_idle(worker) or not _waits_for_ends_of_questions(world, worker):
        return None
    own = [number for number in asked if world.messages[number].sender == worker.number]
    if any([world.statuses[number] == "sent" for number in own]):
        return None
    # A question that has arrived and is open waits for the present process of its place, or was taken by it.
    holders = [world.messages[number].receiver for number in own]
    # A place hangs on another one only: a question that it keeps itself is not with another place.
    if len(set(holders)) != 1 or holders[0] == place.number:
        return None
    return world.places[holders[0]].plan.name


def _waits_for_ends_of_questions(world, worker):
    """Whether an idle worker can take an answer or a return alone, and none of these waits or is on its way."""
    for row in worker.plan.script:
        if row[0] == worker.mode and row[1] not in ENDS_OF_QUESTIONS:
            return False
    return first_fitting(world, worker) is None and not _has_end_on_its_way(world, worker.number)


def _has_end_on_its_way(world, process):
    """Whether an answer or a return for the process with this number has not arrived yet."""
    sent = [world.messages[row[4][0]] for row in world.steps if row[3] == "arrival"]
    return any([message.kind in ENDS_OF_QUESTIONS and message.receiver == process for message in sent])


def _ring_from(hanging, name):
    """The ring that begins with a place, or () if this is in none; hanging has the place on which each one hangs."""
    ring = [name]
    other = hanging[name]
    while other in hanging and other not in ring:
        ring.append(other)
        other = hanging[other]
    return tuple(ring) if other == name else ()
