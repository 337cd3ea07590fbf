"""Messages on their way: they are sent, arrive, wait, are dropped, answered and returned."""

from watchtree.agenda import enter, put_step
from watchtree.places import process_at
from watchtree.scripts import MOST_WAITING, found_row
from watchtree.worlds import Message, Worker

KINDS_TO_PLACES = ("send", "ask")


def send_message(world, kind, sender, receiver, word, value, about=None):
    """Send a message and return its number; sender is a process or None, receiver and about are numbers."""
    world.messages_made += 1
    number = world.messages_made
    source = None
    home = None
    if sender is not None:
        source = sender.number
        home = sender.place
    world.messages[number] = Message(kind, source, home, receiver, word, value, about)
    set_status(world, number, "sent")
    if kind == "ask":
        world.questions[number] = "open"
    shown = world.places[receiver].plan.name if kind in KINDS_TO_PLACES else receiver
    enter(world, "sent", number, kind, source, shown, word, value)
    put_step(world, 1, "arrival", number)
    return number


def set_status(world, number, status):
    """A message has this status from now on."""
    if number in world.statuses:
        world.counts[world.statuses[number]] -= 1
    world.counts[status] += 1
    world.statuses[number] = status


def send_word(world, receiver, word, value, about):
    """Send a process a message that has no sender, and its kind as its word."""
    send_message(world, word, None, receiver, word, value, about)


def tell_asker(world, order, value):
    """Send the process whose deed an order was, if there is one, what became of it."""
    if order.asker is not None:
        send_word(world, order.asker, "told", value, order.about)


def arrive(world, number):
    """Step: a message arrives, and waits or is dropped."""
    worker = _receiver_of(world, world.messages[number])
    if worker is None or len(worker.box) >= MOST_WAITING:
        drop_message(world, number)
        return
    worker.box.append(number)
    set_status(world, number, "waiting")
    enter(world, "arrived", number, worker.number)
    if is_idle(worker) and _fits(world, worker, number):
        put_step(world, 0, "take", worker.number)


def _receiver_of(world, message):
    """The process of a worker to which a message goes, or None."""
    if message.kind in KINDS_TO_PLACES:
        process = process_at(world, message.receiver)
    else:
        process = world.live.get(message.receiver)
    return process if isinstance(process, Worker) else None


def is_idle(worker):
    """Whether a worker runs and is idle."""
    return worker.state == "running" and not worker.is_busy


def _fits(world, worker, number):
    return found_row(worker.plan.script, worker.mode, world.messages[number].word) is not None


def first_fitting(world, worker):
    """The number of the first message in the box of a worker that fits, or None."""
    for number in worker.box:
        if _fits(world, worker, number):
            return number
    return None


def drop_message(world, number):
    """A message is dropped; an open question among them is returned."""
    set_status(world, number, "dropped")
    enter(world, "dropped", number)
    if world.questions.get(number) == "open":
        return_question(world, number)


def return_question(world, number):
    """An open question is returned, with a message if it is not the caller's."""
    question = world.messages[number]
    world.questions[number] = "returned"
    enter(world, "returned", number)
    if question.sender is not None:
        send_word(world, question.sender, "back", question.value, question.receiver)


def answer_question(world, worker, number, value):
    """A worker answers an open question, with a message if it is not the caller's."""
    question = world.messages[number]
    world.questions[number] = "answered"
    worker.questions.remove(number)
    enter(world, "answered", number)
    if question.sender is None:
        world.answers[number] = value
    else:
        send_message(world, "answer", worker, question.sender, "answer", value, question.receiver)
