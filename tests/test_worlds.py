"""watchtree.worlds: the records of trees by chance hold together, and those of a twin are copies."""

import unittest

from tests.histories import history_by_chance, scripted_root, seeded
from tests.telling import ran, root, row, worker
from watchtree.plans import WorkerPlan
from watchtree.trees import Tree
from watchtree.worlds import Message, Order, Place, Supervisor, Worker

RECORDS = (Place, Worker, Supervisor)
NEVER_CHANGED = (Order, Message)


def parts(value):
    """A value as it is, with records and what they hold taken apart."""
    if isinstance(value, RECORDS):
        return type(value).__name__, {name: parts(part) for name, part in vars(value).items()}
    if isinstance(value, list):
        return [parts(part) for part in value]
    if isinstance(value, dict):
        return {key: parts(part) for key, part in value.items()}
    return value


def holders(value):
    """All lists, dicts and records that are found in a value and can change."""
    if isinstance(value, RECORDS):
        return [value] + [one for part in vars(value).values() for one in holders(part)]
    if isinstance(value, dict):
        return [value] + [one for part in value.values() for one in holders(part)]
    if isinstance(value, list):
        return [value] + [one for part in value for one in holders(part)]
    return []


def worlds():
    """The trees with scripts by chance, in the middle of their histories."""
    for seed in range(120):
        chance = seeded(seed)
        tree = Tree(scripted_root(chance))
        for _ in range(4):
            history_by_chance(chance, tree, 8)
            yield tree


class Twins(unittest.TestCase):
    def test_a_twin_has_equal_records(self):
        for tree in worlds():
            one, other = tree.world, tree.twin().world
            self.assertEqual(vars(one).keys(), vars(other).keys())
            for name, part in vars(one).items():
                if name not in ("cause", "first"):
                    self.assertEqual(parts(part), parts(vars(other)[name]), name)

    def test_a_twin_shares_nothing_that_changes(self):
        for tree in worlds():
            one, other = tree.world, tree.twin().world
            held = [part for value in vars(one).values() for part in holders(value)]
            numbers = {id(part) for part in held}
            self.assertFalse([part for value in vars(other).values() for part in holders(value)
                              if id(part) in numbers])

    def test_orders_and_messages_are_not_changed(self):
        for tree in worlds():
            found = [order for process in tree.world.live.values() if isinstance(process, Supervisor)
                     for order in process.orders] + list(tree.world.messages.values())
            before = [dict(vars(one)) for one in found]
            tree.run(tree.tick + 5)
            self.assertEqual([vars(one) for one in found], before)


class Records(unittest.TestCase):
    def test_links_and_monitors_are_known_at_both_ends(self):
        links = monitors = 0
        for tree in worlds():
            live = tree.world.live
            for process in live.values():
                for owner in process.watchers:
                    self.assertIn(process.number, live[owner].watched)
                if isinstance(process, Supervisor):
                    continue
                links += len(process.links)
                monitors += len(process.watched)
                self.assertNotIn(process.number, process.links)
                self.assertEqual(len(set(process.links)), len(process.links))
                self.assertEqual(len(set(process.watched)), len(process.watched))
                for other in process.links:
                    self.assertIn(process.number, live[other].links)
                for other in process.watched:
                    self.assertIn(process.number, live[other].watchers)
        self.assertTrue(links > 20 and monitors > 50)

    def test_boxes_questions_and_statuses(self):
        for tree in worlds():
            world = tree.world
            workers = [process for process in world.live.values() if isinstance(process, Worker)]
            waiting = sorted(number for process in workers for number in process.box)
            self.assertEqual(waiting, [number for number in world.statuses if world.statuses[number] == "waiting"])
            taken = sorted(number for process in workers for number in process.questions)
            self.assertEqual(taken, [number for number, state in world.questions.items()
                                     if state == "open" and world.statuses[number] == "handled"])

    def test_names_places_and_processes(self):
        for tree in worlds():
            world = tree.world
            self.assertEqual({place.plan.name: number for number, place in world.places.items()}, world.taken)
            found = set()
            for number, process in world.live.items():
                self.assertEqual((process.number, world.places[process.place].latest), (number, number))
                found.add(process.place)
                if isinstance(process, Supervisor):
                    added = [one for one in process.places if world.places[one].is_added]
                    kept = [one for one in process.places if not world.places[one].is_added]
                    self.assertEqual(process.places, kept + added)
                    self.assertLessEqual(set(kept), set(world.places[process.place].below))
                    for one in process.places:
                        self.assertEqual(world.places[one].above, process.place)
            self.assertEqual(len(found), len(world.live))

    def test_an_order_to_mend_is_taken_away_for_those_in_front(self):
        plan = root(WorkerPlan("a"), WorkerPlan("b", closing=3), WorkerPlan("c"), strategy="all", most=3)
        tree = ran(plan)
        tree.fail("c")
        tree.run(0)
        tree.add("root", WorkerPlan("x"))
        self.assertEqual([(order.kind, order.name) for order in tree.world.live[1].orders], [
            ("stop", "b"), ("stop", "a"), ("start", "a"), ("start", "b"), ("start", "c"), ("add", "x")])

    def test_timers_know_the_tick_of_their_arrival(self):
        rows = row("start", ("later", 5, "x", 1), ("later", 1, "y", 2), ("later", 3, "x", 3))
        tree = ran(root(WorkerPlan("b", opening=2), worker("a", rows)), 2)
        self.assertEqual([timer[1:] for timer in tree.world.live[3].timers], [(7, "x", 1), (5, "x", 3)])
        tree.run(4)
        self.assertEqual([timer[1:] for timer in tree.world.live[3].timers], [(7, "x", 1)])


if __name__ == "__main__":
    unittest.main()
