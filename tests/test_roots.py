"""watchtree.plans: the plans that can be the root of a tree."""

import unittest

from tests.samples import ALL_KINDS, chain_of, plan_of, workers_of
from watchtree.errors import BadRoot
from watchtree.plans import SupervisorPlan, WorkerPlan, check_root, is_root


def line_of(*many):
    """A plan with a supervisor for each of these numbers, its most, each the child of the one before."""
    plan = WorkerPlan("w")
    for level, most in reversed(list(enumerate(many))):
        plan = SupervisorPlan(f"s{level}", plan, most=most)
    return plan


class Roots(unittest.TestCase):
    def check_right(self, plan):
        self.assertIsNone(check_root(plan))
        self.assertIs(is_root(plan), True)

    def check_bad(self, value, rule):
        with self.assertRaises(BadRoot) as told:
            check_root(value)
        self.assertEqual(told.exception.rule, rule)
        self.assertIs(is_root(value), False)

    def test_right_ones(self):
        self.check_right(SupervisorPlan("root"))
        self.check_right(SupervisorPlan("root", WorkerPlan("a"), SupervisorPlan("b", WorkerPlan("c"))))
        self.assertIsNone(check_root(plan=SupervisorPlan("root")))
        self.assertIs(is_root(value=SupervisorPlan("root")), True)

    def test_the_root_is_a_supervisor_plan(self):
        for value in ALL_KINDS + (WorkerPlan("a"), [SupervisorPlan("a")], (SupervisorPlan("a"),), SupervisorPlan):
            self.check_bad(value, "plan")

    def test_different_names(self):
        again = WorkerPlan("a")
        self.check_bad(SupervisorPlan("root", WorkerPlan("root")), "names")
        self.check_bad(SupervisorPlan("root", again, again), "names")
        self.check_bad(SupervisorPlan("root", WorkerPlan("a"), WorkerPlan("b"), WorkerPlan("a", opening=1)), "names")
        self.check_bad(SupervisorPlan("root", SupervisorPlan("a", WorkerPlan("b")), WorkerPlan("b")), "names")
        self.check_bad(SupervisorPlan("root", SupervisorPlan("a", WorkerPlan("a"))), "names")
        self.check_bad(SupervisorPlan("root", SupervisorPlan("a", WorkerPlan("x")),
                                      SupervisorPlan("b", WorkerPlan("x"))), "names")

    def test_names_of_plans_in_scripts_do_not_count(self):
        adds = (("first", "start", 1, (("add", "root", WorkerPlan("a")), ("add", "root", WorkerPlan("root")))),)
        self.check_right(SupervisorPlan("root", WorkerPlan("a", script=adds)))

    def test_at_most_sixty_plans(self):
        self.check_right(plan_of(59))
        self.check_right(plan_of(60))
        self.check_bad(plan_of(61), "size")
        self.check_bad(plan_of(157), "size")

    def test_at_most_six_levels(self):
        self.check_right(chain_of(5))
        self.check_right(chain_of(6))
        self.check_bad(chain_of(7), "levels")
        self.check_bad(chain_of(20), "levels")

    def test_the_deepest_path_counts(self):
        self.check_right(SupervisorPlan("root", WorkerPlan("a"), chain_of(5), WorkerPlan("b")))
        self.check_bad(SupervisorPlan("root", WorkerPlan("a"), chain_of(6), WorkerPlan("b")), "levels")

    def test_a_supervisor_can_be_on_the_last_level(self):
        plan = SupervisorPlan("s6")
        for level in range(5, 0, -1):
            plan = SupervisorPlan(f"s{level}", plan)
        self.check_right(plan)
        self.check_bad(SupervisorPlan("s0", plan), "levels")

    def test_products_up_to_a_thousand(self):
        self.check_right(line_of(9, 9, 9))
        self.check_right(line_of(19, 9, 4))
        self.check_right(line_of(4, 19, 9, 0, 0))
        self.check_right(line_of(0, 0, 0, 0, 0))
        self.check_bad(line_of(9, 9, 10), "product")
        self.check_bad(line_of(10, 9, 9), "product")
        # 7 * 11 * 13 is 1,001, the least product beyond the bound.
        self.check_bad(line_of(6, 10, 12), "product")
        self.check_bad(line_of(20, 20, 20), "product")
        self.check_bad(line_of(1, 1, 20, 20), "product")

    def test_each_path_counts_by_itself(self):
        def side(name, *many):
            plan = SupervisorPlan(f"{name}{len(many)}", most=many[-1])
            for level in range(len(many) - 1, 0, -1):
                plan = SupervisorPlan(f"{name}{level}", plan, most=many[level - 1])
            return plan
        root = SupervisorPlan("root", side("a", 9, 9), WorkerPlan("w"), side("b", 4, 19), side("c", 0, 3), most=9)
        self.check_right(root)
        for at in range(3):
            sides = [side("a", 9, 9), side("b", 4, 19), side("c", 0, 3)]
            sides[at] = side("d", 9, 10)
            self.check_bad(SupervisorPlan("root", *sides, most=9), "product")

    def test_supervisors_without_children_count(self):
        self.check_right(SupervisorPlan("root", SupervisorPlan("a", SupervisorPlan("b", most=9), most=9), most=9))
        self.check_bad(SupervisorPlan("root", SupervisorPlan("a", SupervisorPlan("b", most=10), most=9), most=9),
                       "product")

    def test_the_order_of_the_rules(self):
        large = [SupervisorPlan(f"g{at}", *workers_of(f"g{at}", 12)) for at in range(5)]
        again = SupervisorPlan("g0", most=20)
        product = line_of(20, 20, 20)
        self.check_bad(SupervisorPlan("root", *large, chain_of(7, 20), again), "names")
        self.check_bad(SupervisorPlan("root", *large, chain_of(7, 20)), "size")
        self.check_bad(SupervisorPlan("root", *large, product), "size")
        self.check_bad(SupervisorPlan("root", chain_of(7, 20), product, WorkerPlan("root")), "names")
        self.check_bad(SupervisorPlan("root", chain_of(7, 20)), "levels")
        self.check_bad(SupervisorPlan("root", product), "product")


if __name__ == "__main__":
    unittest.main()
