"""The work of workers: they open, take messages, do the rows of their scripts, and are idle again."""

from watchtree.agenda import enter, put_step
from watchtree.deeds import do_deeds
from watchtree.ends import end_process
from watchtree.posts import first_fitting, is_idle, set_status
from watchtree.scripts import found_row


def end_opening(world, number):
    """Step: the opening of a worker is over, and it runs, or its start is refused."""
    worker = world.live.get(number)
    if worker is None:
        return
    # The process is the latest one of its place, so its own start is the last one that was counted.
    if 2 <= world.places[worker.place].starts <= worker.plan.refused + 1:
        end_process(world, worker, "refused")
        return
    worker.state = "running"
    enter(world, "running", number)
    put_step(world, 0, "report", worker.starter, number)
    row = found_row(worker.plan.script, worker.mode, "start")
    if row is None:
        _look_for_message(world, worker)
    else:
        _do_row(world, worker, row)


def _do_row(world, worker, row):
    """A worker does the deeds of a row, and is busy for its work."""
    worker.is_busy = True
    do_deeds(world, worker, row[3])
    if worker.number in world.live:
        put_step(world, row[2], "rest", worker.number)


def end_work(world, number):
    """Step: the work of a worker is over, unless it gave it up."""
    worker = world.live.get(number)
    if worker is not None and worker.is_busy:
        worker.is_busy = False
        enter(world, "idle", number)
        _look_for_message(world, worker)


def _look_for_message(world, worker):
    """Put the step by which a worker that has become idle takes a message, if one fits."""
    if first_fitting(world, worker) is not None:
        put_step(world, 0, "take", worker.number)


def take_message(world, number):
    """Step: a worker that is idle takes the first message of its box that fits."""
    worker = world.live.get(number)
    if worker is None or not is_idle(worker):
        return
    found = first_fitting(world, worker)
    if found is None:
        return
    message = world.messages[found]
    worker.box.remove(found)
    set_status(world, found, "handled")
    enter(world, "taken", found, number)
    worker.value = message.value
    worker.sender = message.home
    worker.about = message.about
    if message.kind == "ask":
        worker.asked = found
        worker.questions.append(found)
    _do_row(world, worker, found_row(worker.plan.script, worker.mode, message.word))
