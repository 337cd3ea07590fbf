"""The deeds of workers."""

from watchtree.agenda import enter, put_step
from watchtree.checks import LARGEST_VALUE
from watchtree.ends import end_process
from watchtree.orders import ask_to_add, ask_to_remove
from watchtree.places import process_at
from watchtree.posts import answer_question, send_message, send_word
from watchtree.worlds import Worker


def do_deeds(world, worker, deeds):
    """A worker does its deeds one after the other; behind its end none is done."""
    for deed in deeds:
        if worker.number in world.live:
            action = ACTIONS[deed[0]]
            action(world, worker, deed)


def _place_meant(world, worker, name):
    """The number of the place that a deed means, or None if there is no such place."""
    if name == "own":
        number = worker.place
    elif name == "sender":
        number = worker.sender
    elif name == "about":
        number = worker.about
    else:
        number = world.taken.get(name)
    # The place of an earlier message may be gone by now.
    return number if number in world.places else None


def _value_meant(worker, value):
    """The value that a deed means: an integer, or the sum of one and the value of the message that was taken last."""
    if not isinstance(value, tuple):
        return value
    return max(-LARGEST_VALUE, min(LARGEST_VALUE, worker.value + value[1]))


def _note(world, worker, deed):
    enter(world, "noted", worker.number, deed[1])


def _send(world, worker, deed):
    """Send a message of the kind send or ask."""
    kind, name, word, value = deed
    place = _place_meant(world, worker, name)
    if place is not None:
        send_message(world, kind, worker, place, word, _value_meant(worker, value))


def _reply(world, worker, deed):
    if worker.asked in worker.questions:
        answer_question(world, worker, worker.asked, _value_meant(worker, deed[1]))


def _later(world, worker, deed):
    _, ticks, word, value = deed
    meant = _value_meant(worker, value)
    world.timers_made += 1
    worker.timers.append((world.timers_made, world.now + ticks, word, meant))
    enter(world, "timer", worker.number, world.now + ticks, word, meant)
    put_step(world, ticks - 1, "timer", worker.number, world.timers_made)


def send_timer(world, number, timer):
    """Step: a timer sends its message, if it was not taken away."""
    worker = world.live.get(number)
    if worker is None:
        return
    due = [row for row in worker.timers if row[0] == timer]
    worker.timers = [row for row in worker.timers if row[0] != timer]
    for row in due:
        word, value = row[2:]
        send_message(world, "later", worker, number, word, value)


def _cancel(world, worker, deed):
    word = deed[1]
    left = [row for row in worker.timers if row[2] != word]
    if len(left) < len(worker.timers):
        worker.timers = left
        enter(world, "cancelled", worker.number, word)


def _link(world, worker, deed):
    place = _place_meant(world, worker, deed[1])
    if place is None or place == worker.place:
        return
    other = process_at(world, place)
    if not isinstance(other, Worker):
        put_step(world, 0, "signal", worker.number, "nobody", place, 0)
    elif other.number not in worker.links:
        worker.links.append(other.number)
        other.links.append(worker.number)
        enter(world, "linked", worker.number, other.number)


def _unlink(world, worker, deed):
    other = process_at(world, _place_meant(world, worker, deed[1]))
    if other is not None and other.number in worker.links:
        worker.links.remove(other.number)
        other.links.remove(worker.number)
        enter(world, "unlinked", worker.number, other.number)


def feel_signal(world, number, reason, place, ended):
    """Step: a signal comes to a worker, about a place and the number of the process of it that ended, or 0."""
    worker = world.live.get(number)
    if worker is None or worker.state == "closing":
        return
    enter(world, "signal", number, reason)
    if worker.does_trap:
        send_word(world, number, "ended", ended, place)
    else:
        end_process(world, worker, reason)


def _monitor(world, worker, deed):
    place = _place_meant(world, worker, deed[1])
    if place is None:
        return
    other = process_at(world, place)
    if other is None:
        send_word(world, worker.number, "down", 0, place)
    elif other.number not in worker.watched:
        worker.watched.append(other.number)
        other.watchers.append(worker.number)
        enter(world, "watched", worker.number, other.number)


def _unmonitor(world, worker, deed):
    other = process_at(world, _place_meant(world, worker, deed[1]))
    if other is not None and other.number in worker.watched:
        worker.watched.remove(other.number)
        other.watchers.remove(worker.number)
        enter(world, "unwatched", worker.number, other.number)


def send_down(world, owner, place, ended):
    """Step: a monitor tells its owner's process that the process of a place has ended."""
    send_word(world, owner, "down", ended, place)


def _trap(world, worker, deed):
    worker.does_trap = deed[1]
    enter(world, "trap", worker.number, deed[1])


def _mode(world, worker, deed):
    worker.mode = deed[1]
    enter(world, "mode", worker.number, deed[1])


def _end(world, worker, deed):
    end_process(world, worker, deed[1])


def _add(world, worker, deed):
    ask_to_add(world, _place_meant(world, worker, deed[1]), deed[2], worker.number)


def _remove(world, worker, deed):
    ask_to_remove(world, _place_meant(world, worker, deed[1]), worker.number)


ACTIONS = {
    "note": _note,
    "send": _send,
    "ask": _send,
    "reply": _reply,
    "later": _later,
    "cancel": _cancel,
    "link": _link,
    "unlink": _unlink,
    "monitor": _monitor,
    "unmonitor": _unmonitor,
    "trap": _trap,
    "mode": _mode,
    "end": _end,
    "add": _add,
    "remove": _remove,
}
