"""Points 59 to 61: trials in which tries and looks are paid."""

import inspect
import random

from lookstop.errors import InvalidResult, NothingToRedo, NothingToUndo, OverBudget, StopError, TrialOver
from lookstop.tables import Table
from lookstop.trials import PaidTrial, Trial
from tests.some_tables import counts_of, silent_table, small_table, some_table
from tests.test_trials import TrialCase, later_steps, state_of


def looks_table(looks, limit=9):
    """A table with these looks that says `no word` at its limit only."""
    return Table(limit, looks, {count: "no word" for count in counts_of(limit)})


class PaidTest(TrialCase):
    def test_nothing_recorded(self):
        trial = PaidTrial(small_table(), 0)
        self.assertEqual((trial.paid, trial.budget, trial.tries, trial.verdict), (0, 0, 0, None))
        self.assertIsInstance(trial, Trial)
        self.assertIs(type(trial.paid), int)

    def test_tries_alone(self):
        trial = PaidTrial(looks_table([2, 5, 9]), 100)
        for tries in range(1, 10):
            trial.record("W")
            self.assertEqual(trial.paid, tries)

    def test_looks_and_tries(self):
        looks = [2, 3, 7, 9]
        trial = PaidTrial(looks_table(looks), 100, per_try=3, per_look=5)
        for tries in range(1, 10):
            trial.record("WL"[tries % 2])
            self.assertEqual(trial.paid, 3 * tries + 5 * sum(look <= tries for look in looks))
        self.assertEqual(trial.verdict, "no word")

    def test_prices_of_zero(self):
        trial = PaidTrial(small_table(), 0, per_try=0)
        self.assertEqual(trial.record("WW"), "at least 1/2")
        self.assertEqual(trial.paid, 0)
        trial = PaidTrial(small_table(), 2, per_try=0, per_look=1)
        trial.record("WW")
        self.assertEqual(trial.paid, 2)

    def test_keywords(self):
        self.assertEqual(str(inspect.signature(PaidTrial)), "(table, budget, *, per_try=1, per_look=0)")
        trial = PaidTrial(per_look=2, budget=9, per_try=4, table=small_table())
        trial.record("W")
        self.assertEqual((trial.paid, trial.budget), (6, 9))
        with self.assertRaises(TypeError):
            PaidTrial(small_table(), 9, 4)

    def test_great_numbers(self):
        trial = PaidTrial(small_table(), 10 ** 999, per_try=10 ** 998, per_look=4 * 10 ** 998)
        trial.record("WW")
        self.assertEqual((trial.paid, trial.budget), (10 ** 999, 10 ** 999))
        trial = PaidTrial(small_table(), 10 ** 999 - 1, per_try=10 ** 998, per_look=4 * 10 ** 998)
        self.assert_unchanged(trial, OverBudget, lambda: trial.record("WW"), missing=1)

    def test_a_step_that_is_undone_is_not_paid(self):
        trial = PaidTrial(looks_table([1, 9]), 8, per_look=4)
        trial.record("W")
        trial.record("LL")
        self.assertEqual(trial.paid, 7)
        trial.undo()
        self.assertEqual(trial.paid, 5)
        trial.undo()
        self.assertEqual(trial.paid, 0)
        self.assert_unchanged(trial, NothingToUndo, trial.undo)
        trial.record("WW")
        self.assertEqual(trial.paid, 6)

    def test_everything_of_a_trial(self):
        trial = PaidTrial(small_table(), 5)
        self.assertIsNone(trial.record("W"))
        self.assertIsNone(trial.record(""))
        self.assertEqual((trial.wins, trial.losses, trial.tries, len(trial), trial.history()), (1, 0, 1, 1, ["W"]))
        self.assertEqual(list(trial.leads()), [(0, 0), (1, 0)])
        self.assertEqual(trial.remaining("no word").coefs, (1, -1))
        self.assertEqual(trial.remaining_length().coefs, (1,))
        self.assertEqual(trial.record("L"), "no word")
        self.assertEqual(trial.record(""), "no word")
        self.assertEqual((trial.undo(), trial.redo()), ("L", "L"))
        self.assertIs(type(PaidTrial.replay(small_table(), ["W"])), Trial)


class BudgetTest(TrialCase):
    def test_record(self):
        trial = PaidTrial(small_table(), 3, per_look=2)
        self.assert_unchanged(trial, OverBudget, lambda: trial.record("WW"), missing=3)
        self.assertIsNone(trial.record("W"))
        self.assertEqual(trial.paid, 3)
        self.assert_unchanged(trial, OverBudget, lambda: trial.record("W"), missing=3)
        # What costs nothing is allowed.
        self.assertIsNone(trial.record(""))

    def test_a_budget_that_is_just_reached(self):
        for budget in range(7):
            trial = PaidTrial(small_table(), budget, per_look=2)
            if budget == 6:
                self.assertEqual(trial.record("WW"), "at least 1/2")
                self.assertEqual(trial.paid, 6)
            else:
                self.assert_unchanged(trial, OverBudget, lambda: trial.record("WW"), missing=6 - budget)

    def test_other_errors_of_record_come_first(self):
        trial = PaidTrial(small_table(), 0, per_look=2)
        self.assert_unchanged(trial, InvalidResult, lambda: trial.record("WWx"), index=2)
        self.assert_unchanged(trial, InvalidResult, lambda: trial.record("Lx"), index=1)
        self.assert_unchanged(trial, TrialOver, lambda: trial.record("LL"), word="below 1/2")
        self.assert_unchanged(trial, TrialOver, lambda: trial.record("W" * 5000), word="at least 1/2")
        self.assert_unchanged(trial, OverBudget, lambda: trial.record("L"), missing=3)

    def test_a_step_too_dear_forgets_nothing(self):
        trial = PaidTrial(silent_table(9), 3)
        trial.record("W")
        trial.record("WL")
        trial.undo()
        self.assert_unchanged(trial, OverBudget, lambda: trial.record("LLL"), missing=1)
        self.assertEqual(trial.redo(), "WL")

    def test_redo(self):
        trial = PaidTrial(silent_table(9), 5)
        self.assert_unchanged(trial, NothingToRedo, trial.redo)
        trial.record("W")
        trial.record("LLW")
        trial.undo()
        trial.undo()
        trial.change_budget(2)
        self.assertEqual(trial.redo(), "W")
        self.assert_unchanged(trial, OverBudget, trial.redo, missing=2)
        trial.budget = 3
        self.assert_unchanged(trial, OverBudget, trial.redo, missing=1)
        trial.budget = 4
        self.assertEqual(trial.redo(), "LLW")
        self.assert_unchanged(trial, NothingToRedo, trial.redo)

    def test_nothing_to_redo_comes_first(self):
        trial = PaidTrial(silent_table(9), 0)
        self.assert_unchanged(trial, NothingToRedo, trial.redo)

    def test_redo_counts_the_looks(self):
        trial = PaidTrial(looks_table([2, 3, 9]), 9, per_look=2)
        trial.record("WWW")
        self.assertEqual(trial.paid, 7)
        trial.undo()
        trial.budget = 6
        self.assert_unchanged(trial, OverBudget, trial.redo, missing=1)

    def test_change_table(self):
        for change in (PaidTrial.change_table, lambda trial, table: setattr(trial, "table", table)):
            trial = PaidTrial(looks_table([9]), 10, per_look=3)
            trial.record("WL")
            trial.record("W")
            trial.record("L")
            trial.undo()
            dear = looks_table([1, 2, 3, 9])
            self.assert_unchanged(trial, OverBudget, lambda: change(trial, dear), missing=2)
            self.assert_unchanged(trial, TrialOver, lambda: change(trial, small_table()), word="no word")
            self.assertEqual(later_steps(trial), ["L"])
            self.assertIsNone(change(trial, looks_table([2, 3, 9])))
            self.assertEqual((trial.paid, trial.table), (9, looks_table([2, 3, 9])))
            self.assert_unchanged(trial, NothingToRedo, trial.redo)
            trial.change_budget(12)
            change(trial, dear)
            self.assertEqual((trial.paid, trial.budget), (12, 12))
            change(trial, looks_table([9]))
            self.assertEqual(trial.paid, 3)

    def test_the_end_of_another_table_comes_first(self):
        trial = PaidTrial(looks_table([9]), 3, per_look=5)
        trial.record("LL")
        self.assert_unchanged(trial, TrialOver, lambda: trial.change_table(small_table()), word="below 1/2")
        trial = PaidTrial(looks_table([9]), 3, per_look=5)
        trial.record("L")
        self.assert_unchanged(trial, OverBudget, lambda: trial.change_table(small_table()), missing=3)
        trial.change_budget(6)
        trial.change_table(small_table())
        self.assertEqual((trial.verdict, trial.paid), ("below 1/2", 6))

    def test_change_budget(self):
        for change in (PaidTrial.change_budget, lambda trial, budget: setattr(trial, "budget", budget)):
            trial = PaidTrial(small_table(), 20, per_try=2, per_look=3)
            trial.record("W")
            trial.record("W")
            trial.undo()
            self.assertEqual(trial.paid, 5)
            self.assert_unchanged(trial, OverBudget, lambda: change(trial, 4), missing=1)
            self.assert_unchanged(trial, OverBudget, lambda: change(trial, 0), missing=5)
            self.assertIsNone(change(trial, 5))
            self.assertEqual((trial.budget, trial.paid), (5, 5))
            # A change of the budget keeps what was taken back.
            self.assert_unchanged(trial, OverBudget, trial.redo, missing=5)
            change(trial, 10 ** 999)
            self.assertEqual(trial.budget, 10 ** 999)
            self.assertEqual(trial.redo(), "W")
        self.assertEqual(str(inspect.signature(PaidTrial.change_budget)), "(self, budget)")

    def test_the_properties(self):
        for name in ("paid", "budget"):
            self.assertIsInstance(vars(PaidTrial)[name], property)
        with self.assertRaises(AttributeError):
            PaidTrial(small_table(), 1).paid = 3


class ForkTest(TrialCase):
    def test_the_same_budget_prices_and_steps(self):
        trial = PaidTrial(looks_table([2, 9]), 12, per_try=2, per_look=5)
        trial.record("W")
        trial.record("LL")
        trial.undo()
        other = trial.fork()
        self.assertIs(type(other), PaidTrial)
        self.assertEqual(state_of(other), state_of(trial))
        self.assertEqual((other.paid, other.budget, later_steps(other)), (2, 12, ["LL"]))
        self.assertEqual(other.redo(), "LL")
        self.assertEqual((other.paid, trial.paid), (11, 2))
        self.assert_unchanged(other, OverBudget, lambda: other.record("W"), missing=1)

    def test_forks_go_on_independently(self):
        trial = PaidTrial(looks_table([2, 9]), 30, per_look=5)
        trial.record("W")
        other = trial.fork()
        before = state_of(other)
        trial.record("WL")
        trial.budget = 8
        trial.table = looks_table([3, 9])
        trial.undo()
        self.assertEqual(state_of(other), before)
        before = state_of(trial)
        other.record("LLL")
        other.change_budget(9)
        other.change_table(looks_table([9]))
        other.undo()
        self.assertEqual(state_of(trial), before)
        self.assertEqual((trial.budget, other.budget), (8, 9))


class Model:
    """A trial as the document describes it: each answer is reckoned anew from all results, and errors are names."""

    def __init__(self, table, budget, per_try, per_look):
        self.table, self.budget, self.prices = table, budget, (per_try, per_look)
        self.steps, self.later = [], []

    def ends_along(self, table, results):
        found = []
        for many in range(len(results) + 1):
            wins = results[:many].count("W")
            if table.is_end(wins, many - wins):
                found.append((many, table.word_at(wins, many - wins)))
        return found

    def verdict(self):
        return dict(self.ends_along(self.table, "".join(self.steps))).get(len("".join(self.steps)))

    def missing(self, table, tries, budget):
        if budget is None:
            return 0
        price = self.prices[0] * tries + self.prices[1] * sum(look <= tries for look in table.looks)
        return max(0, price - budget)

    def call(self, name, *values):
        return getattr(self, name)(*values)

    def record(self, results):
        for index, letter in enumerate(results):
            if letter not in "WL":
                return ("InvalidResult", {"index": index})
        if not results:
            return self.verdict()
        after = "".join(self.steps) + results
        for many, word in self.ends_along(self.table, after):
            if many < len(after):
                return ("TrialOver", {"word": word})
        if self.missing(self.table, len(after), self.budget):
            return ("OverBudget", {"missing": self.missing(self.table, len(after), self.budget)})
        self.steps, self.later = self.steps + [results], []
        return self.verdict()

    def undo(self):
        if not self.steps:
            return ("NothingToUndo", {})
        self.later.append(self.steps.pop())
        return self.later[-1]

    def redo(self):
        if not self.later:
            return ("NothingToRedo", {})
        missing = self.missing(self.table, len("".join(self.steps)) + len(self.later[-1]), self.budget)
        if missing:
            return ("OverBudget", {"missing": missing})
        self.steps.append(self.later.pop())
        return self.steps[-1]

    def change_table(self, table):
        results = "".join(self.steps)
        for many, word in self.ends_along(table, results):
            if many < len(results):
                return ("TrialOver", {"word": word})
        if self.missing(table, len(results), self.budget):
            return ("OverBudget", {"missing": self.missing(table, len(results), self.budget)})
        self.table, self.later = table, []
        return None

    def change_budget(self, budget):
        missing = self.missing(self.table, len("".join(self.steps)), budget)
        if missing:
            return ("OverBudget", {"missing": missing})
        self.budget = budget
        return None


class ModelTest(TrialCase):
    def assert_alike(self, trial, model):
        results = "".join(model.steps)
        self.assertEqual((trial.wins, trial.losses, trial.tries, len(trial)),
                         (results.count("W"), results.count("L"), len(results), len(results)))
        self.assertEqual((trial.verdict, trial.history(), trial.table), (model.verdict(), model.steps, model.table))
        self.assertEqual(list(trial.leads()), [(results[:many].count("W"), results[:many].count("L"))
                                               for many in range(len(results) + 1)])
        self.assertEqual(later_steps(trial), model.later[::-1])
        if isinstance(trial, PaidTrial):
            paid = model.prices[0] * len(results) + model.prices[1] * sum(look <= len(results)
                                                                          for look in model.table.looks)
            self.assertEqual((trial.paid, trial.budget), (paid, model.budget))

    def call(self, trial, name, *values):
        try:
            return getattr(trial, name)(*values)
        except StopError as error:
            return (type(error).__name__, vars(error))

    def run_calls(self, chance, trial, model, tables):
        seen = set()
        for _ in range(60):
            kind = chance.choice(("record", "record", "record", "undo", "redo", "change_table", "change_budget"))
            if kind == "record":
                values = ("".join(chance.choice("WWLL" * 5 + "x") for _ in range(chance.choice((0, 1, 1, 1, 2, 3)))),)
            elif kind == "change_table":
                values = (chance.choice(tables),)
            elif kind == "change_budget":
                if not isinstance(trial, PaidTrial):
                    continue
                values = (chance.randrange(40),)
            else:
                values = ()
            answer = self.call(trial, kind, *values)
            self.assertEqual(answer, model.call(kind, *values))
            self.assert_alike(trial, model)
            seen.add((kind, answer[0] if isinstance(answer, tuple) else "done"))
        return seen

    def test_many_calls(self):
        chance = random.Random(2026)
        tables = [some_table(seed, 4 + seed % 9) for seed in range(8)] + [silent_table(12), looks_table([1, 2, 5, 9])]
        seen = set()
        for _ in range(60):
            table, budget = chance.choice(tables), chance.randrange(60)
            prices = (chance.randrange(4), chance.randrange(6))
            paid = PaidTrial(table, budget, per_try=prices[0], per_look=prices[1])
            seen |= self.run_calls(chance, paid, Model(table, budget, *prices), tables)
            seen |= self.run_calls(chance, Trial(table), Model(table, None, 0, 0), tables)
        for expected in (("record", "InvalidResult"), ("record", "TrialOver"), ("record", "OverBudget"),
                         ("undo", "NothingToUndo"), ("redo", "NothingToRedo"), ("redo", "OverBudget"), ("redo", "done"),
                         ("change_table", "TrialOver"), ("change_table", "OverBudget"), ("change_table", "done"),
                         ("change_budget", "OverBudget"), ("change_budget", "done")):
            self.assertIn(expected, seen)
