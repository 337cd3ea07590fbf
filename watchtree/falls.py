"""How many failures a tree stands, when it falls, and how far a failure reaches."""

from watchtree.ends import is_mended
from watchtree.errors import NotQuiet, NotRunning, NotWorker
from watchtree.mends import budget_at, part_of_mend
from watchtree.places import place_called, process_at, processes_from
from watchtree.plans import WorkerPlan, check_root, path_to, plan_at
from watchtree.times import limited, opening_time, stopping_time
from watchtree.worlds import Supervisor

# What a caller lets a worker fail with; all abnormal reasons do the same.
FAILURE = "failed"


def attacks(plan, place):
    """The tuple of (name, cycle, attack) for each supervisor over a worker; BadRoot, NoPlace, NotWorker.

    The first one is the worker's own supervisor. The attack is None if a supervisor does not give up by stubborn
    failures of the worker; both are None for those over it.
    """
    way = _way_to_worker(plan, place)
    told = []
    attack = 0
    for at in range(len(way) - 2, -1, -1):
        cycle = None
        if attack is not None:
            turn = way[at].children.index(way[at + 1])
            cycle = _cycle(way[at], turn, attack)
            attack = _attack(way[at], turn, attack, cycle)
        told.append((way[at].name, cycle, attack))
    return tuple(told)


def fall(plan, place):
    """How many stubborn failures of a worker end the tree, and at which tick; BadRoot, NoPlace, NotWorker.

    None if they never do.
    """
    attack = attacks(plan, place)[-1][2]
    if attack is None:
        return None
    failures = 1
    for supervisor in _way_to_worker(plan, place)[:-1]:
        failures = failures * (supervisor.most + 1)
    return failures, opening_time(plan) + attack


def fewest(plan):
    """The number of failures below which none end the tree, or None without workers; BadRoot."""
    check_root(plan)
    return _least_product(plan)


def reach(tree, place):
    """The ascending tuple of the names of the places that the next failure of a worker of a quiet tree ends.

    NoPlace, NotWorker, NotRunning, NotQuiet.
    """
    world = tree.world
    found = place_called(world, place)
    if not isinstance(found.plan, WorkerPlan):
        raise NotWorker(place)
    process = process_at(world, found.number)
    if process is None or process.state != "running":
        raise NotRunning(place)
    if not tree.is_quiet:
        raise NotQuiet()
    return tuple(sorted([one.plan.name for one in _reached(world, process)]))


def _way_to_worker(plan, place):
    """The list of the plans from the root to that of a worker; BadRoot, NoPlace, NotWorker."""
    check_root(plan)
    way = [plan_at(plan, name) for name in path_to(plan, place)]
    if not isinstance(way[-1], WorkerPlan):
        raise NotWorker(place)
    return way


def _cycle(supervisor, turn, attack):
    """Every how many ticks a supervisor notes a restart of its child at an index, which the attack ends again."""
    children = supervisor.children
    begin, end = part_of_mend(supervisor.strategy, turn, len(children))
    stops = _sum_of_stopping(children[begin:turn] + children[turn + 1:end])
    mend = stops + _sum_of_opening(children[begin:end])
    until_it_runs = stops + _sum_of_opening(children[begin:turn + 1])
    return max(mend, until_it_runs + attack)


def _attack(supervisor, turn, attack, cycle):
    """How many ticks a supervisor runs until it has ended by giving up, or None if it does not give up."""
    if supervisor.most * cycle >= supervisor.span:
        return None
    children = supervisor.children
    # A child can run, and end again, before its supervisor runs: the first note waits for the opening to be over.
    first = max(0, _sum_of_opening(children[:turn + 1]) + attack - opening_time(supervisor))
    return first + supervisor.most * cycle + _sum_of_stopping(children[:turn] + children[turn + 1:])


def _sum_of_opening(plans):
    return sum([opening_time(plan) for plan in plans])


def _sum_of_stopping(plans):
    return sum([stopping_time(plan) for plan in plans])


def _least_product(plan):
    """The least product of most + 1 over the supervisors from a plan to a worker, or None without workers."""
    if isinstance(plan, WorkerPlan):
        return 1
    below = [_least_product(child) for child in plan.children]
    products = [product for product in below if product is not None]
    return (plan.most + 1) * min(products) if len(products) > 0 else None


def _reached(world, process):
    """The list of the processes that end by the failure of a worker's process."""
    reached = [process]
    tick = world.now
    supervisor = _mending_supervisor(world, process)
    while supervisor is not None and budget_at(supervisor, tick) == 0:
        others = [number for number in supervisor.places if number != process.place]
        tick += _time_to_stop(world, others)
        process = supervisor
        reached = processes_from(world, process)
        supervisor = _mending_supervisor(world, process)
    if supervisor is not None:
        for one in _live_at(world, _stopped_by_mend(supervisor, process.place)):
            reached.extend(processes_from(world, one))
    return reached


def _mending_supervisor(world, process):
    """The process of the supervisor that mends a process after an abnormal end, or None."""
    if process.starter is None or not is_mended(process.plan, FAILURE):
        return None
    return world.live[process.starter]


def _stopped_by_mend(supervisor, place):
    """The list of the numbers of the places that a supervisor stops when it mends the one with this number."""
    at = supervisor.places.index(place)
    begin, end = part_of_mend(supervisor.plan.strategy, at, len(supervisor.places))
    return supervisor.places[begin:at] + supervisor.places[at + 1:end]


def _live_at(world, places):
    """The list of the processes of places that have not ended."""
    found = [process_at(world, number) for number in places]
    return [process for process in found if process is not None]


def _time_to_stop(world, places):
    """How many ticks it takes to stop the processes of places, one after the other."""
    return sum([_stopping_time_of(world, process) for process in _live_at(world, places)])


def _stopping_time_of(world, process):
    """How many ticks the stop of a process takes, with what is in the lists now."""
    if isinstance(process, Supervisor):
        return limited(_time_to_stop(world, process.places), process.plan.deadline)
    return limited(process.plan.closing, process.plan.deadline)
