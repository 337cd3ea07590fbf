"""Orders of supervisors: they are given and taken away, by starts, stops, mends, and what is added and removed."""

from watchtree.agenda import enter, put_step
from watchtree.ends import drop_orders, end_process, refuse_order
from watchtree.places import supervisor_at
from watchtree.plans import WorkerPlan
from watchtree.posts import tell_asker
from watchtree.worlds import Order, Supervisor, Worker


def give_orders(world, supervisor, orders):
    """A supervisor gets orders, behind all others."""
    had_none = len(supervisor.orders) == 0
    supervisor.orders.extend(orders)
    if had_none:
        put_beginning(world, supervisor)


def put_beginning(world, supervisor):
    """Put the step that begins the first order, if there is one."""
    if len(supervisor.orders) > 0:
        put_step(world, 0, "begin", supervisor.number, supervisor.orders[0].number)


def take_away(world, supervisor):
    """The first order is taken away, so the next one becomes the first one."""
    supervisor.awaited = None
    del supervisor.orders[0]
    put_beginning(world, supervisor)


def replace_first(world, supervisor, orders):
    """The first order is taken away, and others are put in front of all that are left."""
    supervisor.orders = orders + supervisor.orders[1:]
    put_beginning(world, supervisor)


def order_number(world):
    """The number of a new order."""
    world.orders_made += 1
    return world.orders_made


def orders_for(world, kind, places):
    """The list of an order of this kind for each place with one of these numbers."""
    return [Order(order_number(world), kind, place=number, name=world.places[number].plan.name)
            for number in places]


def start_place(world, place, starter):
    """Start a place, and return the number of the process; starter is that of the supervisor, or None."""
    world.processes_made += 1
    number = world.processes_made
    place.starts += 1
    place.latest = number
    place.reason = None
    # Nobody has the number 0.
    enter(world, "started", number, place.plan.name, 0 if starter is None else starter)
    if isinstance(place.plan, WorkerPlan):
        world.live[number] = Worker(number, place.number, place.plan, starter)
        put_step(world, place.plan.opening, "opened", number)
    else:
        supervisor = Supervisor(number, place.number, place.plan, starter)
        world.live[number] = supervisor
        supervisor.places = list(place.below)
        orders = orders_for(world, "start", place.below)
        orders.append(Order(order_number(world), "ready"))
        give_orders(world, supervisor, orders)
    return number


def close_supervisor(world, supervisor, reason):
    """A supervisor begins to close, so that it ends with this reason."""
    supervisor.state = "closing"
    enter(world, "closing", supervisor.number)
    drop_orders(world, supervisor)
    orders = orders_for(world, "stop", list(reversed(supervisor.places)))
    orders.append(Order(order_number(world), "end", reason=reason))
    give_orders(world, supervisor, orders)


def ask_to_stop(world, process):
    """A process is asked to stop."""
    if process.state != "closing":
        if isinstance(process, Supervisor):
            close_supervisor(world, process, "shutdown")
        else:
            _close_worker(world, process)
    # A worker that was opening has ended by now, and its deadlines went with it.
    if process.number in world.live and process.plan.deadline is not None:
        put_step(world, process.plan.deadline, "deadline", process.number)


def _close_worker(world, worker):
    was_opening = worker.state == "opening"
    worker.state = "closing"
    worker.is_busy = False
    enter(world, "closing", worker.number)
    if was_opening:
        end_process(world, worker, "shutdown")
    else:
        put_step(world, worker.plan.closing, "closed", worker.number)


def end_closed(world, number):
    """Step: the closing of a worker is over."""
    worker = world.live.get(number)
    if worker is not None:
        end_process(world, worker, "shutdown")


def ask_to_add(world, place, plan, asker):
    """The supervisor at a place is asked to add a plan; place is a number or None, asker a process's or None."""
    order = Order(order_number(world), "add", name=plan.name, plan=plan, asker=asker, about=place)
    _ask_for(world, supervisor_at(world, place), order)


def ask_to_remove(world, number, asker):
    """The supervisor of a place is asked to remove it; number is the place's or None, asker a process's or None."""
    place = world.places.get(number)
    name = None if place is None else place.plan.name
    order = Order(order_number(world), "remove", place=number, name=name, asker=asker, about=number)
    _ask_for(world, _supervisor_over(world, place), order)


def _supervisor_over(world, place):
    """The process of a supervisor in whose list a place is, or None; also None without a place."""
    if place is None:
        return None
    supervisor = supervisor_at(world, place.above)
    if supervisor is None or place.number not in supervisor.places:
        return None
    return supervisor


def _ask_for(world, supervisor, order):
    """A supervisor is asked for an order to add or remove; None if no process can be asked."""
    if supervisor is None:
        tell_asker(world, order, 0)
    elif supervisor.state == "closing":
        refuse_order(world, supervisor, order)
    else:
        give_orders(world, supervisor, [order])
