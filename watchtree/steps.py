"""The course of a tree: steps and deadlines are executed, tick by tick."""

from watchtree.agenda import begin_step, end_step, enter, first_tick, take_step
from watchtree.deeds import feel_signal, send_down, send_timer
from watchtree.ends import kill_process
from watchtree.mends import begin_order, hear_notice, hear_report
from watchtree.orders import ask_to_stop, end_closed, start_place
from watchtree.places import ROOT_PROCESS, make_place, processes_from
from watchtree.posts import arrive
from watchtree.works import end_opening, end_work, take_message
from watchtree.worlds import World


def started_world(plan):
    """The world of a new tree: the start of the root is its first input."""
    world = World()
    begin_input(world, "start")
    start_place(world, make_place(world, plan, None), None)
    end_step(world)
    return world


def begin_input(world, method, *arguments):
    """From now on an input of the caller is executed."""
    begin_step(world, 0)
    enter(world, "input", method, arguments)


def stop_root(world):
    """Input: the root is asked to stop."""
    begin_input(world, "stop")
    ask_to_stop(world, world.live[ROOT_PROCESS])
    end_step(world)


def is_world_over(world):
    """Whether the process of the root has ended."""
    return ROOT_PROCESS not in world.live


def run_to(world, tick):
    """Execute all steps up to and in a tick, and make it the present one."""
    at = first_tick(world)
    while at is not None and at <= tick:
        world.now = at
        _execute_next(world)
        at = first_tick(world)
    world.now = tick


def run_to_entry(world, tick):
    """Execute steps up to and in a tick until one of them makes an entry; return whether one does."""
    before = world.entries_made
    at = first_tick(world)
    while world.entries_made == before and at is not None and at <= tick:
        world.now = at
        _execute_next(world)
        at = first_tick(world)
    return world.entries_made > before


def _execute_next(world):
    """Execute the next step of the present tick, or its first deadline if it has no step left."""
    row = take_step(world)
    if row is None:
        row = _first_deadline(world)
    cause, kind, data = row[2:]
    begin_step(world, cause)
    _do_step(world, kind, data)
    end_step(world)


def _first_deadline(world):
    """The deadline that takes effect first in the present tick; it goes by this, as its process ends."""
    due = [row for row in world.deadlines if row[0] == world.now]
    numbers = [row[4][0] for row in due]
    chosen = None
    greatest = 0
    for process in processes_from(world, world.live[ROOT_PROCESS]):
        level = world.places[process.place].level
        if process.number in numbers and level >= greatest:
            chosen = process.number
            greatest = level
    return due[numbers.index(chosen)]


def _do_step(world, kind, data):
    """Do what a step of this kind is for; the data are numbers of processes, places and the like."""
    if kind == "begin":
        begin_order(world, *data)
    elif kind == "opened":
        end_opening(world, *data)
    elif kind == "report":
        hear_report(world, *data)
    elif kind == "notice":
        hear_notice(world, *data)
    elif kind == "closed":
        end_closed(world, *data)
    elif kind == "deadline":
        _meet_deadline(world, *data)
    elif kind == "arrival":
        arrive(world, *data)
    elif kind == "take":
        take_message(world, *data)
    elif kind == "rest":
        end_work(world, *data)
    elif kind == "timer":
        send_timer(world, *data)
    elif kind == "signal":
        feel_signal(world, *data)
    else:
        send_down(world, *data)


def _meet_deadline(world, number):
    kill_process(world, world.live[number])
