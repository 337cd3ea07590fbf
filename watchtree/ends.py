"""Ends of processes, and what goes with them."""

from watchtree.agenda import drop_deadlines, enter, put_step
from watchtree.places import forget_place, processes_from
from watchtree.posts import drop_message, return_question, tell_asker
from watchtree.worlds import Worker

NORMAL_REASONS = ("normal", "shutdown")
ORDERS_THAT_ARE_ASKED = ("add", "remove")


def is_abnormal(reason):
    """Whether a reason is abnormal."""
    return reason not in NORMAL_REASONS


def is_mended(plan, reason):
    """Whether a child with this plan is mended after an end with this reason."""
    return plan.restart == "permanent" or (plan.restart == "transient" and is_abnormal(reason))


def end_process(world, process, reason):
    """A process ends with this reason."""
    place = world.places[process.place]
    place.reason = reason
    del world.live[process.number]
    drop_deadlines(world, process.number)
    enter(world, "ended", process.number, reason)
    if isinstance(process, Worker):
        _end_messages(world, process)
        _end_own_monitors(world, process)
        _end_links(world, process, place, reason)
    else:
        drop_orders(world, process)
        _end_list(world, process)
    _end_monitors(world, process, place)
    if process.starter is not None:
        put_step(world, 0, "notice", process.starter, place.number, process.number, is_mended(place.plan, reason))


def _end_messages(world, worker):
    """The messages of a worker that has ended are dropped, then the open questions that it took are returned."""
    for number in worker.box:
        drop_message(world, number)
    for number in sorted(worker.questions):
        return_question(world, number)


def _end_own_monitors(world, worker):
    for number in worker.watched:
        if number == worker.number:
            worker.watchers.remove(number)
        else:
            world.live[number].watchers.remove(worker.number)


def _end_links(world, worker, place, reason):
    for number in list(worker.links):
        world.live[number].links.remove(worker.number)
        if is_abnormal(reason):
            put_step(world, 0, "signal", number, reason, place.number, worker.number)


def _end_monitors(world, process, place):
    for number in process.watchers:
        world.live[number].watched.remove(process.number)
        put_step(world, 0, "down", number, place.number, process.number)


def _end_list(world, supervisor):
    """The added places in the list of a supervisor that has ended are gone."""
    for number in list(supervisor.places):
        place = world.places[number]
        if place.is_added:
            forget_place(world, place)


def kill_process(world, process):
    """A process is killed with everything below it."""
    found = processes_from(world, process)
    for one in reversed(found):
        end_process(world, one, "killed")


def drop_orders(world, supervisor):
    """A supervisor drops its orders."""
    orders = supervisor.orders
    supervisor.orders = []
    supervisor.awaited = None
    for order in orders:
        if order.kind in ORDERS_THAT_ARE_ASKED:
            refuse_order(world, supervisor, order)


def refuse_order(world, supervisor, order):
    """A supervisor does not do an order to add or remove, or drops it."""
    enter(world, "refused", supervisor.number, order.name)
    tell_asker(world, order, 0)


def leave_list(world, supervisor, number):
    """A place leaves the list of a supervisor."""
    place = world.places[number]
    supervisor.places.remove(number)
    enter(world, "removed", supervisor.number, place.plan.name)
    if place.is_added:
        forget_place(world, place)
