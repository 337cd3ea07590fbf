"""Places and the processes in them: how they are made and found, and the order of the tree."""

from watchtree.errors import NoPlace
from watchtree.plans import (MOST_ROOT_LEVELS, MOST_ROOT_PLANS, MOST_ROOT_PRODUCT, SupervisorPlan, greatest_product,
                             levels_of, names)
from watchtree.worlds import Place, Supervisor

ROOT_PROCESS = 1


def make_place(world, plan, above):
    """Make the place of a plan and those of all plans below it; above is the place of its supervisor, or None."""
    world.places_made += 1
    number = world.places_made
    if above is None:
        place = Place(number, plan, None, 1, 1)
    else:
        place = Place(number, plan, above.number, above.level + 1, above.product)
    world.places[number] = place
    world.taken[plan.name] = number
    if isinstance(plan, SupervisorPlan):
        place.product = place.product * (plan.most + 1)
        place.below = tuple([make_place(world, child, place).number for child in plan.children])
    return place


def forget_place(world, place):
    """An added place goes, with those of all plans below it: their names are not taken any more."""
    for number in place.below:
        forget_place(world, world.places[number])
    del world.taken[place.plan.name]
    del world.places[place.number]


def place_called(world, name):
    """The place with this name; NoPlace for any value that is no name of one."""
    if not isinstance(name, str) or name not in world.taken:
        raise NoPlace(name)
    return world.places[world.taken[name]]


def process_at(world, number):
    """The process of the place with this number that has not ended, or None; None also without such a place."""
    place = world.places.get(number)
    if place is None:
        return None
    return world.live.get(place.latest)


def supervisor_at(world, number):
    """The process of a supervisor as process_at tells it, or None."""
    process = process_at(world, number)
    return process if isinstance(process, Supervisor) else None


def processes_from(world, process):
    """The list of a process and of all below it that have not ended, in the order of the tree."""
    found = [process]
    if isinstance(process, Supervisor):
        for number in process.places:
            below = process_at(world, number)
            if below is not None:
                found.extend(processes_from(world, below))
    return found


def can_be_added(world, above, plan):
    """Whether a plan can be added to the list of the supervisor at a place: no name is taken, and 3.3 still holds."""
    told = names(plan)
    if len(set(told)) < len(told) or any([name in world.taken for name in told]):
        return False
    # Each taken name is that of one plan, as all of them are different.
    return (len(world.taken) + len(told) <= MOST_ROOT_PLANS
            and above.level + levels_of(plan) <= MOST_ROOT_LEVELS
            and above.product * greatest_product(plan) <= MOST_ROOT_PRODUCT)
