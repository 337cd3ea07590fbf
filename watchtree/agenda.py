"""The agenda and the log: steps are put and executed in their order, and make entries with their causes."""

from heapq import heappop, heappush


def begin_step(world, cause):
    """From now on a step with this cause is executed."""
    world.cause = cause
    world.first = None


def enter(world, word, *data):
    """Make an entry of the step that is being executed."""
    cause = _cause_of_next(world)
    world.entries_made += 1
    world.log.append((world.entries_made, world.now, cause, word, data))
    if world.first is None:
        world.first = world.entries_made


def put_step(world, ticks, kind, *data):
    """Put a step, or a deadline, so many ticks later."""
    world.pending.append((world.now + ticks, kind, data))


def end_step(world):
    """Put the steps of the step that was executed on the agenda."""
    # They wait until now for their cause: it is the first entry of the step, wherever in the step this was made.
    cause = _cause_of_next(world)
    for tick, kind, data in world.pending:
        world.steps_made += 1
        row = (tick, world.steps_made, cause, kind, data)
        if kind == "deadline":
            world.deadlines.append(row)
        else:
            heappush(world.steps, row)
    world.pending = []


def _cause_of_next(world):
    """The cause of the next entry of the step, or of a step that it puts."""
    return world.cause if world.first is None else world.first


def first_tick(world):
    """The tick of the first step or deadline, or None."""
    ticks = [row[0] for row in world.deadlines]
    if len(world.steps) > 0:
        ticks.append(world.steps[0][0])
    return min(ticks, default=None)


def take_step(world):
    """Take the next ordinary step of the present tick from the agenda, or None if there is none left."""
    if len(world.steps) == 0 or world.steps[0][0] > world.now:
        return None
    return heappop(world.steps)


def drop_deadlines(world, number):
    """The deadlines of a process go."""
    world.deadlines = [row for row in world.deadlines if row[4] != (number,)]
