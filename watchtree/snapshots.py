"""Snapshots of trees: plain values with all that decides what a tree does later, and the trees that go on from them."""

from watchtree.places import make_place
from watchtree.plans import SupervisorPlan, WorkerPlan
from watchtree.posts import set_status
from watchtree.trees import Tree
from watchtree.worlds import Message, Order, Supervisor, Worker, World

FINAL_STATUSES = ("handled", "dropped")


def snapshot(tree):
    """A tuple that tells all that decides what a tree does later."""
    world = tree.world
    places = tuple([(place.number, place.starts, place.latest, place.reason) for place in world.places.values()])
    processes = tuple([_process_told(process) for process in world.live.values()])
    # A heap can hold the same steps in several orders.
    steps = tuple(sorted(world.steps))
    return (_counters_told(world), _added_told(world), places, processes, _messages_told(world), steps,
            tuple(world.deadlines))


def restored(plan, saved):
    """A tree that goes on as the tree with this plan does from which a snapshot was taken."""
    counters, added, places, processes, messages, steps, deadlines = saved
    world = World()
    make_place(world, plan, None)
    _restore_added(world, added)
    _restore_places(world, places)
    for told in processes:
        _restore_process(world, told)
    for told in messages:
        _restore_message(world, told)
    world.steps = list(steps)
    world.deadlines = list(deadlines)
    _restore_counters(world, counters)
    tree = Tree(plan)
    tree.world = world
    return tree


def _counters_told(world):
    return (world.now, world.entries_made, world.steps_made, world.places_made, world.processes_made,
            world.orders_made, world.messages_made, world.timers_made)


def _restore_counters(world, told):
    now, entries_made, steps_made, places_made, processes_made, orders_made, messages_made, timers_made = told
    world.now = now
    world.entries_made = entries_made
    world.steps_made = steps_made
    world.places_made = places_made
    world.processes_made = processes_made
    world.orders_made = orders_made
    world.messages_made = messages_made
    world.timers_made = timers_made


def _added_told(world):
    """The places of added plans; those of the plans below them follow from these."""
    return tuple([(place.number, place.above, _plan_told(place.plan))
                  for place in world.places.values() if place.is_added])


def _restore_added(world, added):
    """Make the places of added plans, and of the plans below them, with the numbers that they had."""
    for number, above, told in added:
        world.places_made = number - 1
        place = make_place(world, _plan_from(told), world.places[above])
        place.is_added = True


def _restore_places(world, places):
    for number, starts, latest, reason in places:
        place = world.places[number]
        place.starts = starts
        place.latest = latest
        place.reason = reason


def _process_told(process):
    details = _worker_told(process) if isinstance(process, Worker) else _supervisor_told(process)
    return (process.number, process.place, process.starter, process.state, tuple(process.watchers), details)


def _restore_process(world, told):
    number, place, starter, state, watchers, details = told
    plan = world.places[place].plan
    if isinstance(plan, WorkerPlan):
        process = Worker(number, place, plan, starter)
        _restore_worker(process, details)
    else:
        process = Supervisor(number, place, plan, starter)
        _restore_supervisor(process, details)
    process.state = state
    process.watchers = list(watchers)
    world.live[number] = process


def _worker_told(worker):
    return (worker.mode, worker.is_busy, worker.does_trap, tuple(worker.box), worker.value, worker.sender,
            worker.about, worker.asked, tuple(worker.questions), tuple(worker.links), tuple(worker.watched),
            tuple(worker.timers))


def _restore_worker(worker, details):
    mode, is_busy, does_trap, box, value, sender, about, asked, questions, links, watched, timers = details
    worker.mode = mode
    worker.is_busy = is_busy
    worker.does_trap = does_trap
    worker.box = list(box)
    worker.value = value
    worker.sender = sender
    worker.about = about
    worker.asked = asked
    worker.questions = list(questions)
    worker.links = list(links)
    worker.watched = list(watched)
    worker.timers = list(timers)


def _supervisor_told(supervisor):
    return (tuple(supervisor.places), tuple([_order_told(order) for order in supervisor.orders]), supervisor.awaited,
            tuple(supervisor.notes))


def _restore_supervisor(supervisor, details):
    places, orders, awaited, notes = details
    supervisor.places = list(places)
    supervisor.orders = [_order_from(told) for told in orders]
    supervisor.awaited = awaited
    supervisor.notes = list(notes)


def _order_told(order):
    plan = None if order.plan is None else _plan_told(order.plan)
    return (order.number, order.kind, order.place, order.name, order.process, order.reason, plan, order.asker,
            order.about)


def _order_from(told):
    number, kind, place, name, process, reason, plan, asker, about = told
    return Order(number, kind, place=place, name=name, process=process, reason=reason,
                 plan=None if plan is None else _plan_from(plan), asker=asker, about=about)


def _messages_told(world):
    """The messages that are not final, and the open questions."""
    return tuple([_message_told(world, number, message) for number, message in world.messages.items()
                  if world.statuses[number] not in FINAL_STATUSES or world.questions.get(number) == "open"])


def _message_told(world, number, message):
    return (number, world.statuses[number], message.kind, message.sender, message.home, message.receiver, message.word,
            message.value, message.about)


def _restore_message(world, told):
    number, status, kind, sender, home, receiver, word, value, about = told
    world.messages[number] = Message(kind, sender, home, receiver, word, value, about)
    if kind == "ask":
        # Questions that are not open any more are not in a snapshot.
        world.questions[number] = "open"
    if status in FINAL_STATUSES:
        world.statuses[number] = status
    else:
        set_status(world, number, status)


def _plan_told(plan):
    if isinstance(plan, WorkerPlan):
        return ("worker", plan.name, plan.restart, plan.opening, plan.closing, plan.deadline, plan.refused,
                tuple([_row_told(row) for row in plan.script]))
    return ("supervisor", plan.name, plan.restart, plan.strategy, plan.most, plan.span, plan.deadline,
            tuple([_plan_told(child) for child in plan.children]))


def _plan_from(told):
    if told[0] == "worker":
        _, name, restart, opening, closing, deadline, refused, rows = told
        return WorkerPlan(name, restart=restart, opening=opening, closing=closing, deadline=deadline, refused=refused,
                          script=tuple([_row_from(row) for row in rows]))
    _, name, restart, strategy, most, span, deadline, below = told
    children = [_plan_from(child) for child in below]
    return SupervisorPlan(name, *children, restart=restart, strategy=strategy, most=most, span=span,
                          deadline=deadline)


def _row_told(row):
    mode, word, work, deeds = row
    return (mode, word, work, tuple([_deed_told(deed) for deed in deeds]))


def _row_from(told):
    mode, word, work, deeds = told
    return (mode, word, work, tuple([_deed_from(deed) for deed in deeds]))


def _deed_told(deed):
    """A deed, with the plan that it adds told as others are."""
    return ("add", deed[1], _plan_told(deed[2])) if deed[0] == "add" else deed


def _deed_from(told):
    return ("add", told[1], _plan_from(told[2])) if told[0] == "add" else told
