"""How long starts and shutdowns take, and what a shutdown does."""

from watchtree.agenda import first_tick
from watchtree.errors import NotQuiet
from watchtree.plans import WorkerPlan, plans_in
from watchtree.steps import is_world_over, run_to, stop_root


def opening_time(plan):
    """How many ticks the start of a plan takes; refused starts count as none."""
    if isinstance(plan, WorkerPlan):
        return plan.opening
    return sum([opening_time(child) for child in plan.children])


def stopping_time(plan):
    """How many ticks the stop of a plan takes."""
    if isinstance(plan, WorkerPlan):
        return limited(plan.closing, plan.deadline)
    return limited(sum([stopping_time(child) for child in plan.children]), plan.deadline)


def limited(needed, deadline):
    """How many ticks the stop takes of what needs so many, and has this deadline or None."""
    return needed if deadline is None else min(needed, deadline)


def shutdown_told(tree):
    """The tuple of (name, tick, reason) for each end that a stop of a quiet tree would bring; NotQuiet."""
    if not tree.is_quiet:
        raise NotQuiet()
    world = tree.world.twin()
    entries_before = len(world.log)
    called = {number: process.plan.name for number, process in world.live.items()}
    stop_root(world)
    while not is_world_over(world):
        run_to(world, first_tick(world))
    return tuple(_ends_of(world.log[entries_before:], called))


def _ends_of(log, called):
    """The list of (name, tick, reason) for the ends of a log.

    called has the names of the processes before it, and gets those of the ones that are started in it.
    """
    ends = []
    for entry in log:
        word, data = entry[3:]
        if word == "started":
            called[data[0]] = data[1]
        if word == "ended":
            ends.append((called[data[0]], entry[1], data[1]))
    return ends


def least_deadlines(plan):
    """A dict from all names to the least deadlines with which a shutdown kills nothing, if all places run."""
    return {one.name: _sum_of_closing(one) for one in plans_in(plan)}


def _sum_of_closing(plan):
    return sum([one.closing for one in plans_in(plan) if isinstance(one, WorkerPlan)])
