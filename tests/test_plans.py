"""watchtree.plans: settings and children of plans, equality, and the places in them."""

import unittest

from tests.samples import (ALL_KINDS, DEED_NAMES, GOOD_WORDS, NO_INTEGERS, NO_STRINGS, NO_TUPLES, NO_WORDS,
                           TREE_REASONS, TREE_WORDS, EqualToAll, chain_of, plan_of, workers_of)
from watchtree.errors import BadChild, BadSetting, NoPlace
from watchtree.plans import SupervisorPlan, WorkerPlan, names, path_to, plan_at

SCRIPT = (("first", "start", 1, (("send", "a", "hello", 0),)), ("first", "go", 1, (("note", "a"),)))
MOST_TICKS = 10 ** 9

NAMES = (GOOD_WORDS + TREE_WORDS + TREE_REASONS + ("owns", "senders", "abouts", "own_"), NO_WORDS + DEED_NAMES)
RESTARTS = (("permanent", "transient", "temporary"), ("", "Permanent", "always", "perm", "permanents") + NO_STRINGS)
TICKS = ((0, 1, MOST_TICKS), (-1, MOST_TICKS + 1, -MOST_TICKS, 10 ** 12) + NO_INTEGERS)
DEADLINES = ((None,) + TICKS[0], tuple(value for value in TICKS[1] if value is not None))

# For each setting, in the order of the signature: values that it can have, and values that it cannot.
WORKER = {
    "name": NAMES,
    "restart": RESTARTS,
    "opening": TICKS,
    "closing": TICKS,
    "deadline": DEADLINES,
    "refused": ((0, 1, 100), (-1, 101, MOST_TICKS) + NO_INTEGERS),
    "script": (((), SCRIPT, SCRIPT[:1]), NO_TUPLES + (
        (1,), ("a",), ([],), list(SCRIPT), (SCRIPT[0], SCRIPT[0]), (SCRIPT[0], None), SCRIPT[0], (list(SCRIPT[0]),),
        (("first", "start", 0, ()),), (("first", "start", 1, (("send", "a", "told", 0),)),))),
}
SUPERVISOR = {
    "name": NAMES,
    "restart": RESTARTS,
    "strategy": (("one", "rest", "all"), ("", "One", "two", "on", "ones", "one_for_one") + NO_STRINGS),
    "most": ((0, 1, 20), (-1, 21, MOST_TICKS) + NO_INTEGERS),
    "span": ((1, 2, MOST_TICKS), (0, -1, MOST_TICKS + 1) + NO_INTEGERS),
    "deadline": DEADLINES,
}
KINDS = ((WorkerPlan, WORKER), (SupervisorPlan, SUPERVISOR))


def made(kind, settings):
    """A plan with these settings, and the name a if they have none."""
    return kind(**{"name": "a", **settings})


class Settings(unittest.TestCase):
    def check_bad(self, kind, settings, setting):
        with self.assertRaises(BadSetting) as told:
            made(kind, settings)
        self.assertEqual(told.exception.setting, setting)

    def test_defaults(self):
        plan = WorkerPlan("a")
        told = (plan.name, plan.restart, plan.opening, plan.closing, plan.deadline, plan.refused, plan.script)
        self.assertEqual(told, ("a", "permanent", 0, 0, None, 0, ()))
        plan = SupervisorPlan("b")
        told = (plan.name, plan.children, plan.restart, plan.strategy, plan.most, plan.span, plan.deadline)
        self.assertEqual(told, ("b", (), "permanent", "one", 1, 10, None))

    def test_each_right_value_is_kept(self):
        for kind, table in KINDS:
            for setting, (right, _) in table.items():
                for value in right:
                    with self.subTest(kind.__name__, setting=setting, value=value):
                        self.assertIs(getattr(made(kind, {setting: value}), setting), value)

    def test_each_wrong_value_is_told(self):
        for kind, table in KINDS:
            for setting, (_, wrong) in table.items():
                for index, value in enumerate(wrong):
                    with self.subTest(kind.__name__, setting=setting, index=index):
                        self.check_bad(kind, {setting: value}, setting)

    def test_all_settings_at_once(self):
        for kind, table in KINDS:
            for at in (0, -1):
                settings = {setting: right[at] for setting, (right, _) in table.items()}
                plan = kind(**settings)
                self.assertEqual({setting: getattr(plan, setting) for setting in table}, settings)

    def test_the_first_wrong_setting_of_the_signature_is_told(self):
        for kind, table in KINDS:
            order = list(table)
            for at, first in enumerate(order):
                wrong = {setting: object() for setting in order[at:]}
                self.check_bad(kind, wrong, first)
                self.check_bad(kind, dict(reversed(wrong.items())), first)
                for second in order[at + 1:]:
                    self.check_bad(kind, {second: [], first: []}, first)

    def test_settings_are_passed_by_name_only(self):
        self.assertRaises(TypeError, lambda: WorkerPlan("a", "permanent"))
        self.assertRaises(TypeError, lambda: WorkerPlan())
        self.assertRaises(TypeError, lambda: WorkerPlan("a", strategy="one"))
        self.assertRaises(TypeError, lambda: SupervisorPlan())
        self.assertRaises(TypeError, lambda: SupervisorPlan("a", opening=1))
        with self.assertRaises(BadChild) as told:
            SupervisorPlan("a", "permanent")
        self.assertEqual(told.exception.index, 0)

    def test_settings_are_checked_ahead_of_children(self):
        for setting in SUPERVISOR:
            settings = {setting: []}
            name = settings.pop("name", "a")
            with self.assertRaises(BadSetting) as told:
                SupervisorPlan(name, None, **settings)
            self.assertEqual(told.exception.setting, setting)


class Children(unittest.TestCase):
    def check_bad(self, children, index):
        with self.assertRaises(BadChild) as told:
            SupervisorPlan("top", *children)
        self.assertEqual(told.exception.index, index)

    def test_children_are_a_tuple_in_their_order(self):
        told = [WorkerPlan("b"), SupervisorPlan("a"), WorkerPlan("c")]
        plan = SupervisorPlan("top", *told)
        self.assertIsInstance(plan.children, tuple)
        self.assertEqual(len(plan.children), 3)
        for child, expected in zip(plan.children, told):
            self.assertIs(child, expected)

    def test_a_child_is_a_plan(self):
        for value in ALL_KINDS + ([WorkerPlan("a")], (WorkerPlan("a"),), WorkerPlan, SupervisorPlan):
            self.check_bad([value], 0)
            self.check_bad([WorkerPlan("a"), SupervisorPlan("b"), value, value], 2)

    def test_at_most_twelve_children(self):
        self.assertEqual(len(SupervisorPlan("top", *workers_of("a", 12)).children), 12)
        self.check_bad(workers_of("a", 13), 12)
        self.check_bad(workers_of("a", 15), 12)
        self.check_bad(workers_of("a", 12) + [None, None], 12)
        self.check_bad(workers_of("a", 13) + [None], 12)
        self.check_bad(workers_of("a", 11) + [None] + workers_of("b", 3), 11)

    def test_at_most_twenty_levels(self):
        self.assertEqual(len(SupervisorPlan("top", chain_of(19))), 20)
        self.check_bad([chain_of(20)], 0)
        self.check_bad([WorkerPlan("a"), chain_of(19), chain_of(20)], 2)
        self.check_bad([WorkerPlan("a"), chain_of(20), None], 1)
        self.check_bad([WorkerPlan("a"), None, chain_of(20)], 1)

    def test_the_last_level_can_be_a_supervisor(self):
        plan = SupervisorPlan("last")
        for _ in range(19):
            plan = SupervisorPlan("one", WorkerPlan("a"), plan)
        self.assertEqual(len(plan), 39)
        self.check_bad([plan], 0)

    def test_the_deepest_child_counts(self):
        deep = SupervisorPlan("deep", WorkerPlan("a"), chain_of(18), WorkerPlan("b"))
        self.assertEqual(len(SupervisorPlan("top", deep)), 22)
        self.check_bad([WorkerPlan("a"), SupervisorPlan("deeper", deep, WorkerPlan("b"))], 1)

    def test_at_most_two_hundred_plans(self):
        plan = SupervisorPlan("top", plan_of(100), plan_of(99))
        self.assertEqual(len(plan), 200)
        self.check_bad([plan_of(100), plan_of(100)], 1)
        self.check_bad([plan], 0)
        self.check_bad([plan_of(100), plan_of(98), WorkerPlan("a"), WorkerPlan("b"), None], 3)
        self.check_bad([plan_of(100), plan_of(98), None, WorkerPlan("a"), WorkerPlan("b")], 2)

    def test_plans_are_counted_as_often_as_they_occur(self):
        again = plan_of(66)
        self.assertEqual(len(SupervisorPlan("top", again, again, again, WorkerPlan("a"))), 200)
        self.check_bad([again, again, again, WorkerPlan("a"), WorkerPlan("a")], 4)

    def test_plans_of_scripts_are_not_counted(self):
        adds = tuple(("add", "top", WorkerPlan("x")) for _ in range(8))
        worker = WorkerPlan("a", script=tuple(("first", f"word{at}", 1, adds) for at in range(30)))
        self.assertEqual(len(SupervisorPlan("top", plan_of(100), plan_of(98), worker)), 200)
        self.assertEqual(len(worker), 1)


class Equality(unittest.TestCase):
    def test_equal_settings_make_equal_plans(self):
        for kind, table in KINDS:
            for setting, (right, _) in table.items():
                for value in right:
                    one, other = made(kind, {setting: value}), made(kind, {setting: value})
                    self.assertIs(one == other, True)
                    self.assertIs(one != other, False)

    def test_each_setting_counts(self):
        for kind, table in KINDS:
            for setting, (right, _) in table.items():
                plans = [made(kind, {setting: value}) for value in right]
                for at, one in enumerate(plans):
                    for other in plans[at + 1:]:
                        with self.subTest(kind.__name__, setting=setting):
                            self.assertIs(one == other, False)
                            self.assertIs(one != other, True)

    def test_scripts_count_item_by_item(self):
        other = WorkerPlan("x", closing=1)
        scripts = ((), (("first", "a", 1, ()),), (("first", "b", 1, ()),), (("second", "a", 1, ()),),
                   (("first", "a", 2, ()),), (("first", "a", 1, (("add", "r", WorkerPlan("x")),)),),
                   (("first", "a", 1, (("add", "r", other),)),), (("first", "a", 1, (("trap", True),)),),
                   (("first", "a", 1, (("trap", False),)),))
        for at, script in enumerate(scripts):
            for index, told in enumerate(scripts):
                self.assertIs(WorkerPlan("a", script=script) == WorkerPlan("a", script=told), at == index)
        again = (("first", "a", 1, (("add", "r", WorkerPlan("x", closing=1)),)),)
        self.assertIs(WorkerPlan("a", script=again) == WorkerPlan("a", script=scripts[6]), True)

    def test_children_count(self):
        def family(*children):
            return SupervisorPlan("top", *children)
        a, b, deep = WorkerPlan("a"), WorkerPlan("b"), SupervisorPlan("a", WorkerPlan("c"))
        plans = [family(), family(a), family(b), family(a, b), family(b, a), family(a, a), family(SupervisorPlan("a")),
                 family(deep), family(SupervisorPlan("a", WorkerPlan("c", opening=1)))]
        for at, one in enumerate(plans):
            for index, other in enumerate(plans):
                self.assertIs(one == other, at == index)
        self.assertIs(family(WorkerPlan("a"), SupervisorPlan("a", WorkerPlan("c"))) == family(a, deep), True)

    def test_a_plan_is_not_equal_to_any_other_value(self):
        for plan in (WorkerPlan("a"), SupervisorPlan("a")):
            for value in ALL_KINDS + ("a", ("a",), ["a"], 1, EqualToAll()):
                self.assertIs(plan == value, False)
                self.assertIs(plan != value, True)
        self.assertIs(WorkerPlan("a") == SupervisorPlan("a"), False)
        self.assertIs(SupervisorPlan("a") == WorkerPlan("a"), False)
        self.assertIs(WorkerPlan("a") != SupervisorPlan("a"), True)


TREE = SupervisorPlan(
    "root",
    WorkerPlan("a"),
    SupervisorPlan("pair", WorkerPlan("left"), SupervisorPlan("again", WorkerPlan("deep"), WorkerPlan("a", opening=7)),
                   WorkerPlan("right")),
    SupervisorPlan("empty"),
    WorkerPlan("left", opening=5),
    WorkerPlan("pair"),
    WorkerPlan("last", script=(("first", "start", 1, (("add", "root", WorkerPlan("hidden")),)),)),
)
NAMES_OF_TREE = ("root", "a", "pair", "left", "again", "deep", "a", "right", "empty", "left", "pair", "last")


class Places(unittest.TestCase):
    def test_len(self):
        self.assertEqual((len(TREE), len(WorkerPlan("a")), len(SupervisorPlan("a"))), (12, 1, 1))
        for many in (1, 2, 13, 14, 60, 157):
            self.assertEqual(len(plan_of(many)), many)

    def test_names(self):
        self.assertEqual(names(TREE), NAMES_OF_TREE)
        self.assertEqual(names(plan=TREE), NAMES_OF_TREE)
        self.assertEqual(names(WorkerPlan("a")), ("a",))
        self.assertEqual(names(SupervisorPlan("b", WorkerPlan("a"), WorkerPlan("c"))), ("b", "a", "c"))

    def test_in(self):
        for name in NAMES_OF_TREE:
            self.assertIs(name in TREE, True)
        for name in ("hidden", "roo", "roots", "Root", "", "no", "one", "permanent"):
            self.assertIs(name in TREE, False)
        self.assertIs("a" in WorkerPlan("a"), True)
        self.assertIs("b" in WorkerPlan("a"), False)

    def test_in_for_any_value(self):
        for value in NO_STRINGS + (WorkerPlan("a"), TREE, ("root",), ["root"]):
            for plan in (TREE, WorkerPlan("a")):
                self.assertIs(value in plan, False)

    def test_plan_at_is_the_first_one(self):
        pair = TREE.children[1]
        for place, expected in (("root", TREE), ("a", TREE.children[0]), ("pair", pair), ("left", pair.children[0]),
                                ("again", pair.children[1]), ("deep", pair.children[1].children[0]),
                                ("right", pair.children[2]), ("empty", TREE.children[2]), ("last", TREE.children[5])):
            with self.subTest(place):
                self.assertIs(plan_at(TREE, place), expected)
                self.assertIs(plan_at(plan=TREE, place=place), expected)
        worker = WorkerPlan("a")
        self.assertIs(plan_at(worker, "a"), worker)

    def test_a_plan_itself_is_ahead_of_those_below_it(self):
        plan = SupervisorPlan("a", SupervisorPlan("a", WorkerPlan("a")), WorkerPlan("b"))
        self.assertIs(plan_at(plan, "a"), plan)
        self.assertEqual(path_to(plan, "a"), ("a",))

    def test_path_to(self):
        for place, expected in (("root", ("root",)), ("a", ("root", "a")), ("pair", ("root", "pair")),
                                ("left", ("root", "pair", "left")), ("again", ("root", "pair", "again")),
                                ("deep", ("root", "pair", "again", "deep")), ("right", ("root", "pair", "right")),
                                ("empty", ("root", "empty")), ("last", ("root", "last"))):
            with self.subTest(place):
                self.assertEqual(path_to(TREE, place), expected)
                self.assertEqual(path_to(plan=TREE, place=place), expected)
        self.assertEqual(path_to(WorkerPlan("a"), "a"), ("a",))
        self.assertEqual(path_to(chain_of(20), "w20"), names(chain_of(20)))

    def test_a_later_branch_with_the_name_deeper_comes_first(self):
        plan = SupervisorPlan("top", SupervisorPlan("s", WorkerPlan("x", opening=1)), WorkerPlan("x"))
        self.assertEqual(path_to(plan, "x"), ("top", "s", "x"))
        self.assertEqual(plan_at(plan, "x").opening, 1)

    def test_no_place(self):
        for value in NO_STRINGS + ("hidden", "", "Root", "no", TREE, WorkerPlan("b"), ["root"]):
            for plan in (TREE, WorkerPlan("b")):
                for asked in (plan_at, path_to):
                    with self.assertRaises(NoPlace) as told:
                        asked(plan, value)
                    self.assertIs(told.exception.place, value)


if __name__ == "__main__":
    unittest.main()
