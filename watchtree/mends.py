"""How supervisors do their orders, and mend what has ended."""

from watchtree.agenda import enter, put_step
from watchtree.ends import end_process, leave_list, refuse_order
from watchtree.orders import (ask_to_stop, close_supervisor, give_orders, order_number, orders_for, put_beginning,
                              replace_first, start_place, take_away)
from watchtree.places import can_be_added, make_place, process_at
from watchtree.posts import tell_asker
from watchtree.worlds import Order

KINDS_THAT_START = ("start", "add")


def begin_order(world, number, wanted):
    """Step: a supervisor begins the order with the wanted number, if this is its first one."""
    supervisor = world.live.get(number)
    if supervisor is None or len(supervisor.orders) == 0 or supervisor.orders[0].number != wanted:
        return
    order = supervisor.orders[0]
    if order.kind == "end":
        end_process(world, supervisor, order.reason)
    elif order.kind == "ready":
        _be_ready(world, supervisor)
    elif order.kind == "add":
        _begin_add(world, supervisor, order)
    elif order.place not in supervisor.places:
        _finish_order(world, supervisor)
    elif order.kind == "mend":
        _begin_mend(world, supervisor, order)
    elif order.kind == "start":
        _begin_start(world, supervisor, order)
    else:
        _begin_stop(world, supervisor, order)


def _be_ready(world, supervisor):
    supervisor.state = "running"
    enter(world, "running", supervisor.number)
    if supervisor.starter is not None:
        put_step(world, 0, "report", supervisor.starter, supervisor.number)
    take_away(world, supervisor)


def _begin_start(world, supervisor, order):
    if process_at(world, order.place) is not None:
        _finish_order(world, supervisor)
    else:
        supervisor.awaited = start_place(world, world.places[order.place], supervisor.number)


def _begin_stop(world, supervisor, order):
    """Begin an order to stop or to remove a place of the list."""
    process = process_at(world, order.place)
    if process is None:
        _finish_order(world, supervisor)
    else:
        supervisor.awaited = process.number
        ask_to_stop(world, process)


def _begin_add(world, supervisor, order):
    above = world.places[supervisor.place]
    if not can_be_added(world, above, order.plan):
        refuse_order(world, supervisor, order)
        take_away(world, supervisor)
        return
    place = make_place(world, order.plan, above)
    place.is_added = True
    supervisor.places.append(place.number)
    enter(world, "added", supervisor.number, place.plan.name)
    supervisor.awaited = start_place(world, place, supervisor.number)


def _begin_mend(world, supervisor, order):
    place = world.places[order.place]
    if place.latest != order.process:
        _finish_order(world, supervisor)
    elif _stands_restart(world, supervisor, place.plan.name):
        replace_first(world, supervisor, _orders_of_mend(world, supervisor, place.number))


def _orders_of_mend(world, supervisor, number):
    """The list of the orders by which a supervisor mends a place, by its strategy."""
    at = supervisor.places.index(number)
    begin, end = part_of_mend(supervisor.plan.strategy, at, len(supervisor.places))
    stops = supervisor.places[begin:at] + supervisor.places[at + 1:end]
    starts = supervisor.places[begin:end]
    return orders_for(world, "stop", list(reversed(stops))) + orders_for(world, "start", starts)


def part_of_mend(strategy, at, many):
    """Begin and end of the slice of so many children that is started when the one at an index is mended.

    Of these, all but the one that is mended are stopped first.
    """
    begin = 0 if strategy == "all" else at
    end = at + 1 if strategy == "one" else many
    return begin, end


def _stands_restart(world, supervisor, name):
    """Note a restart of the place with this name; False if the supervisor gives up by it."""
    supervisor.notes.append(world.now)
    enter(world, "restart", supervisor.number, name)
    if budget_at(supervisor, world.now) >= 0:
        return True
    close_supervisor(world, supervisor, "gave_up")
    return False


def budget_at(supervisor, tick):
    """How many more restarts a supervisor can note at a tick; it gives up below 0."""
    most = supervisor.plan.most
    # No note in front of the last most + 1 ones counts, as the supervisor would have given up.
    counting = [note for note in supervisor.notes[-most - 1:] if tick - note < supervisor.plan.span]
    return most - len(counting)


def _finish_order(world, supervisor):
    """The first order of a supervisor is done."""
    order = supervisor.orders[0]
    if order.kind == "remove" and order.place in supervisor.places:
        leave_list(world, supervisor, order.place)
    tell_asker(world, order, 1)
    take_away(world, supervisor)


def hear_report(world, number, process):
    """Step: a supervisor hears that a process which it started runs."""
    supervisor = world.live.get(number)
    if supervisor is None or supervisor.awaited != process:
        return
    # A process that is awaited by a stop can still report that it ran before this.
    if supervisor.orders[0].kind in KINDS_THAT_START:
        _finish_order(world, supervisor)


def hear_notice(world, number, place, process, is_mended):
    """Step: a supervisor hears that a process which it started has ended."""
    supervisor = world.live.get(number)
    if supervisor is None:
        return
    if place in supervisor.places and world.places[place].plan.restart == "temporary":
        leave_list(world, supervisor, place)
    if supervisor.awaited == process:
        if supervisor.orders[0].kind in KINDS_THAT_START:
            _fail_start(world, supervisor, place)
        else:
            _finish_order(world, supervisor)
    elif is_mended and supervisor.state != "closing":
        give_orders(world, supervisor, [Order(order_number(world), "mend", place=place, process=process)])


def _fail_start(world, supervisor, place):
    """The start for which the first order of a supervisor waits has failed; place is the number of the place."""
    order = supervisor.orders[0]
    if order.kind == "add":
        if place in supervisor.places:
            leave_list(world, supervisor, place)
        tell_asker(world, order, 0)
        take_away(world, supervisor)
    elif supervisor.state == "opening":
        close_supervisor(world, supervisor, "refused")
    elif _stands_restart(world, supervisor, order.name):
        supervisor.awaited = None
        put_beginning(world, supervisor)
