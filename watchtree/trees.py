"""Trees: supervisors and workers that run by a plan, tick by tick, and the inputs of the caller."""

from watchtree.agenda import end_step, first_tick
from watchtree.checks import LARGEST_TICK, is_between, is_given_reason, is_sent_value, is_sent_word
from watchtree.ends import end_process
from watchtree.errors import (BadChild, BadReason, BadTick, BadValue, BadWord, NotRunning, NotSupervisor, NotWorker,
                              Over)
from watchtree.mends import budget_at
from watchtree.orders import ask_to_add, ask_to_remove
from watchtree.places import ROOT_PROCESS, place_called, process_at, processes_from, supervisor_at
from watchtree.plans import SupervisorPlan, WorkerPlan, check_root, is_plan
from watchtree.posts import send_message
from watchtree.steps import begin_input, is_world_over, run_to, started_world, stop_root


class Tree:
    """A tree at the tick 0, whose root is being started; BadRoot."""

    def __init__(self, plan):
        check_root(plan)
        self.plan = plan
        self.world = started_world(plan)

    @property
    def tick(self):
        """The present tick."""
        return self.world.now

    @property
    def is_over(self):
        """Whether the process of the root has ended."""
        return is_world_over(self.world)

    @property
    def is_quiet(self):
        """Whether the tree is not over, and has no step and no deadline on its agenda."""
        return not is_world_over(self.world) and first_tick(self.world) is None

    @property
    def next_tick(self):
        """The tick of the first step or deadline, or None."""
        return first_tick(self.world)

    @property
    def running(self):
        """The tuple of the names of the places whose process runs, in the order of the tree."""
        if is_world_over(self.world):
            return ()
        found = processes_from(self.world, self.world.live[ROOT_PROCESS])
        return tuple([process.plan.name for process in found if process.state == "running"])

    @property
    def entries_count(self):
        """The number of the last entry."""
        return self.world.entries_made

    def __contains__(self, name):
        return isinstance(name, str) and name in self.world.taken

    def __len__(self):
        return len(self.world.live)

    def twin(self):
        """A tree with the same log that goes on by itself."""
        other = Tree(self.plan)
        other.world = self.world.twin()
        return other

    def run(self, tick):
        """Execute all steps up to and in a tick, and return how many entries this makes; BadTick."""
        self._check_tick(tick)
        before = self.world.entries_made
        run_to(self.world, tick)
        return self.world.entries_made - before

    def run_until_quiet(self, tick):
        """Run to the next tick with steps, again and again, up to a tick at most; BadTick.

        Return whether the tree is quiet or over.
        """
        self._check_tick(tick)
        at = first_tick(self.world)
        while not is_world_over(self.world) and at is not None and at <= tick:
            run_to(self.world, at)
            at = first_tick(self.world)
        return is_world_over(self.world) or at is None

    def fail(self, place, reason="failed"):
        """Input: the running process of a worker ends; Over, NoPlace, NotWorker, BadReason, NotRunning."""
        self._prepare_input()
        found = place_called(self.world, place)
        if not isinstance(found.plan, WorkerPlan):
            raise NotWorker(place)
        if not is_given_reason(reason):
            raise BadReason(reason)
        process = process_at(self.world, found.number)
        if process is None or process.state != "running":
            raise NotRunning(place)
        begin_input(self.world, "fail", place, reason)
        end_process(self.world, process, reason)
        end_step(self.world)

    def stop(self):
        """Input: the root is asked to stop; Over."""
        self._prepare_input()
        stop_root(self.world)

    def add(self, place, plan):
        """Input: the supervisor of a place is asked to add a plan; Over, NoPlace, NotSupervisor, BadChild."""
        self._prepare_input()
        found = self._supervisor_place(place)
        if not is_plan(plan):
            raise BadChild(0)
        begin_input(self.world, "add", place, plan)
        ask_to_add(self.world, found.number, plan, None)
        end_step(self.world)

    def take_out(self, place):
        """Input: the supervisor of a place is asked to remove it; Over, NoPlace."""
        self._prepare_input()
        found = place_called(self.world, place)
        begin_input(self.world, "take_out", place)
        ask_to_remove(self.world, found.number, None)
        end_step(self.world)

    def send(self, place, word, value=0):
        """Input: send a message to a place, and return its number; Over, NoPlace, BadWord, BadValue."""
        return self._send("send", place, word, value)

    def ask(self, place, word, value=0):
        """Input: ask a place, and return the number of the message; Over, NoPlace, BadWord, BadValue."""
        return self._send("ask", place, word, value)

    def plan_of(self, place):
        """The plan of a place; NoPlace."""
        return place_called(self.world, place).plan

    def state_of(self, place):
        """The state of the latest process of a place, or None; NoPlace."""
        found = place_called(self.world, place)
        if found.latest is None:
            return None
        process = process_at(self.world, found.number)
        return "ended" if process is None else process.state

    def number_of(self, place):
        """The number of the latest process of a place, or None; NoPlace."""
        return place_called(self.world, place).latest

    def reason_of(self, place):
        """The reason with which the latest process of a place ended, or None; NoPlace."""
        return place_called(self.world, place).reason

    def starts_of(self, place):
        """How often a place was started; NoPlace."""
        return place_called(self.world, place).starts

    def listed(self, place):
        """The tuple of the names in the list of a supervisor that has not ended, or (); NoPlace, NotSupervisor."""
        supervisor = self._supervisor_of(place)
        if supervisor is None:
            return ()
        return tuple([self.world.places[number].plan.name for number in supervisor.places])

    def budget(self, place):
        """How many restarts a supervisor can note at the present tick, or None; NoPlace, NotSupervisor."""
        supervisor = self._supervisor_of(place)
        return None if supervisor is None else budget_at(supervisor, self.world.now)

    def noted(self, place):
        """The tuple of the ticks of the notes of a supervisor that has not ended, or (); NoPlace, NotSupervisor."""
        supervisor = self._supervisor_of(place)
        return () if supervisor is None else tuple(supervisor.notes)

    def _check_tick(self, tick):
        if not is_between(tick, self.world.now, LARGEST_TICK):
            raise BadTick(tick)

    def _prepare_input(self):
        """Run the present tick to its end, as each input does even if it is refused then; Over."""
        run_to(self.world, self.world.now)
        if is_world_over(self.world):
            raise Over()

    def _supervisor_place(self, place):
        found = place_called(self.world, place)
        if not isinstance(found.plan, SupervisorPlan):
            raise NotSupervisor(place)
        return found

    def _supervisor_of(self, place):
        """The process of a supervisor's place that has not ended, or None."""
        return supervisor_at(self.world, self._supervisor_place(place).number)

    def _send(self, kind, place, word, value):
        self._prepare_input()
        found = place_called(self.world, place)
        if not is_sent_word(word):
            raise BadWord(word)
        if not is_sent_value(value):
            raise BadValue(value)
        begin_input(self.world, kind, place, word, value)
        number = send_message(self.world, kind, None, found.number, word, value)
        end_step(self.world)
        return number
