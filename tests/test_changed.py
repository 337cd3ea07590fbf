"""watchtree.plans: plans with other settings."""

import unittest

from tests.samples import NO_STRINGS, chain_of, plan_of
from watchtree.errors import BadSetting, NoPlace
from watchtree.plans import SupervisorPlan, WorkerPlan, changed, names, plan_at

SCRIPT = (("first", "start", 1, (("note", "a"),)),)
WORKER = {"name": "left", "restart": "transient", "opening": 1, "closing": 2, "deadline": 3, "refused": 4,
          "script": SCRIPT}
SUPERVISOR = {"name": "pair", "restart": "temporary", "strategy": "rest", "most": 5, "span": 6, "deadline": 7}
OTHER_WORKER = {"name": "other", "restart": "permanent", "opening": 10, "closing": 20, "deadline": None, "refused": 40,
                "script": ()}
OTHER_SUPERVISOR = {"name": "other", "restart": "permanent", "strategy": "all", "most": 0, "span": 60,
                    "deadline": None}


def tree_of(worker, supervisor):
    """A plan with such a worker and such a supervisor in it, and other plans with their names behind them."""
    inner = SupervisorPlan(supervisor["name"], WorkerPlan("a"), WorkerPlan(**worker), WorkerPlan("b"),
                           **{key: supervisor[key] for key in supervisor if key != "name"})
    return SupervisorPlan("root", WorkerPlan("c", opening=9), inner, WorkerPlan("left"), SupervisorPlan("pair"),
                          strategy="all", most=3, span=4, deadline=5, restart="transient")


class Changed(unittest.TestCase):
    def setUp(self):
        self.plan = tree_of(WORKER, SUPERVISOR)

    def tearDown(self):
        self.assertEqual(self.plan, tree_of(WORKER, SUPERVISOR))

    def check_bad(self, plan, place, settings, setting):
        with self.assertRaises(BadSetting) as told:
            changed(plan, place, **settings)
        self.assertEqual(told.exception.setting, setting)

    def test_each_setting_of_a_worker(self):
        for setting, value in OTHER_WORKER.items():
            with self.subTest(setting):
                expected = tree_of({**WORKER, setting: value}, SUPERVISOR)
                self.assertEqual(changed(self.plan, "left", **{setting: value}), expected)

    def test_each_setting_of_a_supervisor(self):
        for setting, value in OTHER_SUPERVISOR.items():
            with self.subTest(setting):
                expected = tree_of(WORKER, {**SUPERVISOR, setting: value})
                self.assertEqual(changed(self.plan, "pair", **{setting: value}), expected)

    def test_each_setting_of_the_plan_itself(self):
        for setting, value in OTHER_SUPERVISOR.items():
            with self.subTest(setting):
                told = changed(self.plan, "root", **{setting: value})
                self.assertEqual(getattr(told, setting), value)
                self.assertEqual(told.children, self.plan.children)
                self.assertEqual(changed(told, told.name, **{setting: getattr(self.plan, setting)}), self.plan)

    def test_many_settings_in_any_order(self):
        expected = tree_of(OTHER_WORKER, SUPERVISOR)
        self.assertEqual(changed(self.plan, "left", **OTHER_WORKER), expected)
        self.assertEqual(changed(self.plan, "left", **dict(reversed(OTHER_WORKER.items()))), expected)
        self.assertEqual(changed(self.plan, "pair", **OTHER_SUPERVISOR), tree_of(WORKER, OTHER_SUPERVISOR))
        self.assertEqual(changed(plan=self.plan, place="left", **OTHER_WORKER), expected)

    def test_no_settings(self):
        for place in names(self.plan):
            self.assertEqual(changed(self.plan, place), self.plan)

    def test_a_worker_by_itself(self):
        self.assertEqual(changed(WorkerPlan("a"), "a", closing=3), WorkerPlan("a", closing=3))
        self.assertEqual(changed(WorkerPlan("a"), "a", name="b"), WorkerPlan("b"))
        self.assertIsInstance(changed(WorkerPlan("a"), "a"), WorkerPlan)

    def test_only_the_first_plan_with_the_name(self):
        plan = SupervisorPlan("a", SupervisorPlan("b", WorkerPlan("x"), WorkerPlan("x")), WorkerPlan("x"),
                              WorkerPlan("a"))
        expected = SupervisorPlan("a", SupervisorPlan("b", WorkerPlan("x", opening=1), WorkerPlan("x")),
                                  WorkerPlan("x"), WorkerPlan("a"))
        self.assertEqual(changed(plan, "x", opening=1), expected)
        self.assertEqual(changed(plan, "a", most=7), SupervisorPlan("a", *plan.children, most=7))

    def test_a_plan_that_occurs_twice_changes_once(self):
        again = SupervisorPlan("s", WorkerPlan("x"))
        plan = SupervisorPlan("root", again, again)
        expected = SupervisorPlan("root", SupervisorPlan("s", WorkerPlan("x", refused=1)), again)
        self.assertEqual(changed(plan, "x", refused=1), expected)
        self.assertEqual(again, SupervisorPlan("s", WorkerPlan("x")))

    def test_a_name_can_become_one_that_is_there(self):
        plan = SupervisorPlan("root", WorkerPlan("a"), WorkerPlan("b"))
        self.assertEqual(names(changed(plan, "b", name="a")), ("root", "a", "a"))
        self.assertEqual(names(changed(plan, "root", name="a")), ("a", "a", "b"))

    def test_the_largest_plans(self):
        deep = changed(chain_of(20), "w20", closing=8)
        self.assertEqual((plan_at(deep, "w20").closing, len(deep)), (8, 20))
        wide = SupervisorPlan("top", plan_of(100, "a"), plan_of(99, "b"))
        self.assertEqual(len(changed(wide, names(wide)[-1], name="last")), 200)
        self.assertEqual(names(changed(wide, names(wide)[-1], name="last")), names(wide)[:-1] + ("last",))

    def test_no_place(self):
        for value in NO_STRINGS + ("", "no", "Root", self.plan, ["root"]):
            for settings in ({}, {"name": "x"}, {"opening": -1}, {"no": 1}, {"children": ()}):
                with self.assertRaises(NoPlace) as told:
                    changed(self.plan, value, **settings)
                self.assertIs(told.exception.place, value)

    def test_settings_that_the_plan_does_not_have(self):
        for setting in ("strategy", "most", "span", "children", "Name", "no", "self", "level"):
            self.check_bad(self.plan, "left", {setting: 1}, setting)
        for setting in ("opening", "closing", "refused", "script", "children", "Most", "no", "self"):
            self.check_bad(self.plan, "pair", {setting: 1}, setting)
            self.check_bad(self.plan, "root", {setting: ()}, setting)

    def test_the_first_unknown_setting_of_the_call_is_told(self):
        self.check_bad(self.plan, "left", {"span": 1, "most": 1}, "span")
        self.check_bad(self.plan, "left", {"most": 1, "span": 1}, "most")
        self.check_bad(self.plan, "left", {"opening": 1, "b": 1, "closing": 1, "a": 1}, "b")

    def test_unknown_settings_are_told_ahead_of_wrong_ones(self):
        self.check_bad(self.plan, "left", {"name": 1, "opening": -1, "most": 1}, "most")
        self.check_bad(self.plan, "pair", {"name": 1, "children": ()}, "children")
        self.check_bad(self.plan, "pair", {"span": 0, "opening": 1}, "opening")

    def test_wrong_settings_are_told_in_the_order_of_the_signature(self):
        for place, settings in (("left", WORKER), ("pair", SUPERVISOR)):
            order = list(settings)
            for at, first in enumerate(order):
                wrong = {setting: [] for setting in reversed(order[at:])}
                self.check_bad(self.plan, place, wrong, first)
                self.check_bad(self.plan, place, {first: object()}, first)
        self.check_bad(self.plan, "left", {"name": "own"}, "name")
        self.check_bad(self.plan, "left", {"script": [], "refused": 101, "closing": 3}, "refused")
        self.check_bad(self.plan, "root", {"most": 21}, "most")
        self.check_bad(self.plan, "root", {"span": True}, "span")


if __name__ == "__main__":
    unittest.main()
