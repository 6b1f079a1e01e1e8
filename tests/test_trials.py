"""Points 53 to 58 and 61: trials that are led try by try."""

import random
import unittest
from fractions import Fraction
from types import GeneratorType

from lookstop.errors import InvalidResult, NothingToRedo, NothingToUndo, StopError, TrialOver
from lookstop.polys import Poly
from lookstop.tables import Table
from lookstop.trials import PaidTrial, Trial
from tests.checks import value_of
from tests.some_tables import all_trials, counts_of, long_table, path_chance, silent_table, small_table, some_table

WRONG_LETTERS = ("w", "l", " ", "\n", "0", "1", "X", "\u030a", "\uff37", "\x00")


def state_of(trial):
    """Everything that can be read off a trial."""
    words = (*trial.table.words, "no word", "?")
    found = [trial.wins, trial.losses, trial.tries, trial.verdict, len(trial), trial.history(), list(trial.leads()),
             trial.table, [trial.remaining(word) for word in words], trial.remaining_length(), later_steps(trial)]
    if isinstance(trial, PaidTrial):
        found += [trial.paid, trial.budget]
    return found


def later_steps(trial):
    """The steps that can be recorded again, found in a fork."""
    other, found = Trial.fork(trial), []
    while True:
        try:
            found.append(other.redo())
        except NothingToRedo:
            return found


def made(table, *steps):
    trial = Trial(table)
    for text in steps:
        trial.record(text)
    return trial


class TrialCase(unittest.TestCase):
    def assert_unchanged(self, trial, error, call, **attributes):
        """Check that a call raises an error and leaves the trial as it was."""
        before = state_of(trial)
        with self.assertRaises(error) as caught:
            call()
        self.assertIsInstance(caught.exception, StopError)
        self.assertEqual(vars(caught.exception), attributes)
        self.assertEqual(state_of(trial), before)


class RecordTest(TrialCase):
    def test_nothing_recorded(self):
        trial = Trial(small_table())
        self.assertEqual((trial.wins, trial.losses, trial.tries, trial.verdict, len(trial)), (0, 0, 0, None, 0))
        self.assertEqual((trial.history(), list(trial.leads())), ([], [(0, 0)]))
        self.assertEqual(trial.table, small_table())

    def test_by_hand(self):
        trial = Trial(small_table())
        self.assertIsNone(trial.record("W"))
        self.assertEqual((trial.wins, trial.losses, trial.tries, trial.verdict, len(trial)), (1, 0, 1, None, 1))
        self.assertEqual(trial.record("L"), "no word")
        self.assertEqual((trial.wins, trial.losses, trial.tries, trial.verdict, len(trial)), (1, 1, 2, "no word", 2))
        self.assertEqual(trial.history(), ["W", "L"])
        self.assertEqual(Trial(small_table()).record("WW"), "at least 1/2")
        self.assertEqual(Trial(small_table()).record(results="L"), "below 1/2")

    def test_the_properties_are_properties(self):
        for name in ("wins", "losses", "tries", "verdict", "table"):
            self.assertIsInstance(vars(Trial)[name], property)
        for name in ("wins", "losses", "tries", "verdict"):
            with self.assertRaises(AttributeError):
                setattr(Trial(small_table()), name, 1)

    def test_the_empty_text(self):
        trial = Trial(small_table())
        self.assertIsNone(trial.record(""))
        trial.record("W")
        self.assertIsNone(trial.record(""))
        trial.undo()
        self.assertIsNone(trial.record(""))
        # It is no step and forgets nothing.
        self.assertEqual(trial.redo(), "W")
        trial.record("W")
        before = state_of(trial)
        self.assertEqual(trial.record(""), "at least 1/2")
        self.assertEqual(state_of(trial), before)
        self.assertEqual(trial.history(), ["W", "W"])

    def test_other_characters(self):
        for letter in WRONG_LETTERS:
            for text, index in ((letter, 0), ("W" + letter, 1), (letter + "W", 0), ("WL" + letter, 2),
                                ("L" + letter * 3, 1), ("WWWWW" + letter, 5), ("W" * 999 + letter, 999)):
                for trial in (made(small_table()), made(small_table(), "W"), made(small_table(), "WL")):
                    self.assert_unchanged(trial, InvalidResult, lambda: trial.record(text), index=index)

    def test_tries_behind_the_end(self):
        for text, word in (("LL", "below 1/2"), ("LW", "below 1/2"), ("WWL", "at least 1/2"), ("WLWLWL", "no word"),
                           ("L" * 5000, "below 1/2")):
            trial = Trial(small_table())
            self.assert_unchanged(trial, TrialOver, lambda: trial.record(text), word=word)
        trial = made(small_table(), "W")
        self.assert_unchanged(trial, TrialOver, lambda: trial.record("WW"), word="at least 1/2")
        self.assert_unchanged(trial, TrialOver, lambda: trial.record("LWW"), word="no word")
        self.assertEqual(trial.record("W"), "at least 1/2")
        self.assert_unchanged(trial, TrialOver, lambda: trial.record("W"), word="at least 1/2")
        self.assert_unchanged(trial, TrialOver, lambda: trial.record("LLL"), word="at least 1/2")
        self.assert_unchanged(trial, InvalidResult, lambda: trial.record("LLx"), index=2)

    def test_all_trials(self):
        for seed in range(12):
            table = some_table(seed, 1 + seed % 6)
            rule = table.rule()
            for results, end in all_trials(table.limit, table.looks, rule).items():
                text = "".join("LW"[won] for won in results)
                self.assertEqual(Trial(table).record(text), rule[end])
                trial = Trial(table)
                for place, letter in enumerate(text, 1):
                    self.assertEqual(trial.record(letter), rule[end] if place == len(text) else None)
                    self.assertEqual((trial.wins, trial.tries), (sum(results[:place]), place))
                self.assertEqual((trial.wins, trial.losses), end)
                self.assertEqual(list(trial.leads()), [(sum(results[:many]), many - sum(results[:many]))
                                                       for many in range(len(text) + 1)])
                self.assert_unchanged(trial, TrialOver, lambda: trial.record("W"), word=rule[end])

    def test_looks_without_a_word_and_words_without_a_look(self):
        rule = {count: "no word" for count in counts_of(3)}
        trial = Trial(Table(3, [2, 3], {**rule, (1, 0): "below 1/2"}))
        self.assertIsNone(trial.record("W"))
        self.assertIsNone(trial.record("W"))
        self.assertEqual(trial.record("W"), "no word")


class UndoTest(TrialCase):
    def test_nothing_to_undo_or_redo(self):
        trial = Trial(small_table())
        self.assert_unchanged(trial, NothingToUndo, trial.undo)
        self.assert_unchanged(trial, NothingToRedo, trial.redo)
        trial.record("W")
        self.assert_unchanged(trial, NothingToRedo, trial.redo)
        trial.undo()
        self.assert_unchanged(trial, NothingToUndo, trial.undo)
        trial.redo()
        self.assert_unchanged(trial, NothingToRedo, trial.redo)

    def test_through_all_steps_and_beyond(self):
        steps = ["W", "WL", "L", "LLL", "WWL"]
        trial = made(silent_table(10), *steps)
        states = [state_of(trial)[:7]]
        for text in reversed(steps):
            self.assertEqual(trial.undo(), text)
            states.append(state_of(trial)[:7])
        self.assert_unchanged(trial, NothingToUndo, trial.undo)
        self.assertEqual(state_of(trial)[:7], state_of(Trial(silent_table(10)))[:7])
        self.assertEqual(trial.history(), [])
        for text in steps:
            self.assertEqual(state_of(trial)[:7], states.pop())
            self.assertEqual(trial.redo(), text)
        self.assert_unchanged(trial, NothingToRedo, trial.redo)
        self.assertEqual((trial.history(), trial.verdict), (steps, "no word"))

    def test_after_the_end(self):
        trial = made(small_table(), "W", "L")
        self.assertEqual(trial.undo(), "L")
        self.assertIsNone(trial.verdict)
        self.assertEqual(trial.redo(), "L")
        self.assertEqual(trial.verdict, "no word")
        trial.undo()
        self.assertEqual(trial.record("W"), "at least 1/2")

    def test_a_new_step_forgets_what_was_taken_back(self):
        trial = made(silent_table(9), "W", "WW", "L")
        trial.undo()
        trial.undo()
        trial.record("LL")
        self.assert_unchanged(trial, NothingToRedo, trial.redo)
        self.assertEqual(trial.history(), ["W", "LL"])
        self.assertEqual(trial.undo(), "LL")
        self.assertEqual(trial.redo(), "LL")

    def test_a_refused_step_forgets_nothing(self):
        trial = made(small_table(), "W", "W")
        trial.undo()
        self.assert_unchanged(trial, InvalidResult, lambda: trial.record("x"), index=0)
        self.assert_unchanged(trial, TrialOver, lambda: trial.record("WW"), word="at least 1/2")
        self.assertEqual(trial.redo(), "W")

    def test_a_history_that_is_changed_changes_nothing(self):
        trial = made(silent_table(9), "W", "WL")
        trial.history().append("L")
        trial.history().clear()
        self.assertIs(type(trial.history()), list)
        self.assertEqual(trial.history(), ["W", "WL"])
        self.assertEqual(trial.undo(), "WL")


class TableTest(TrialCase):
    def test_tables_that_end_before_the_recorded_tries(self):
        trial = made(silent_table(5), "W", "WL")
        trial.record("W")
        trial.undo()
        for other, word in ((small_table(), "at least 1/2"), (silent_table(1), "no word"),
                            (silent_table(2), "no word")):
            self.assert_unchanged(trial, TrialOver, lambda: trial.change_table(other), word=word)
            self.assert_unchanged(trial, TrialOver, lambda: setattr(trial, "table", other), word=word)
        self.assertEqual(trial.redo(), "W")

    def test_the_first_of_several_ends(self):
        rule = {(1, 0): "below 1/3", (2, 0): "below 1/4", **{count: "no word" for count in counts_of(3)}}
        trial = made(silent_table(9), "WWWW")
        self.assert_unchanged(trial, TrialOver, lambda: trial.change_table(Table(3, [1, 2, 3], rule)), word="below 1/3")
        self.assert_unchanged(trial, TrialOver, lambda: trial.change_table(Table(3, [2, 3], rule)), word="below 1/4")
        self.assert_unchanged(trial, TrialOver, lambda: trial.change_table(Table(3, [3], rule)), word="no word")

    def test_the_order_of_the_tries_matters(self):
        table = Table(3, [1, 3], {(0, 1): "below 1/2", **{count: "no word" for count in counts_of(3)}})
        trial = made(silent_table(4), "LW")
        self.assert_unchanged(trial, TrialOver, lambda: trial.change_table(table), word="below 1/2")
        trial = made(silent_table(4), "WL")
        self.assertIsNone(trial.change_table(table))
        self.assertEqual((trial.table, trial.verdict), (table, None))

    def test_tables_that_end_at_the_recorded_tries(self):
        for change in (Trial.change_table, lambda trial, table: setattr(trial, "table", table)):
            trial = made(silent_table(5), "W", "L")
            change(trial, small_table())
            self.assertEqual((trial.table, trial.verdict, trial.history()), (small_table(), "no word", ["W", "L"]))
            self.assert_unchanged(trial, TrialOver, lambda: trial.record("W"), word="no word")
            self.assertEqual(trial.remaining("no word"), Poly(1))
            self.assertEqual(trial.undo(), "L")
            self.assertIsNone(trial.verdict)
            self.assertEqual(trial.record("W"), "at least 1/2")

    def test_tables_that_end_behind_the_recorded_tries(self):
        for change in (Trial.change_table, lambda trial, table: setattr(trial, "table", table)):
            trial = made(small_table(), "W", "L")
            self.assertEqual(trial.verdict, "no word")
            change(trial, silent_table(3))
            self.assertIsNone(trial.verdict)
            self.assertEqual((trial.wins, trial.losses, trial.history()), (1, 1, ["W", "L"]))
            self.assertEqual(trial.record("W"), "no word")

    def test_before_the_first_try(self):
        trial = Trial(small_table())
        trial.change_table(silent_table(1))
        self.assertEqual(trial.table, silent_table(1))
        self.assertEqual(trial.record("L"), "no word")

    def test_steps_that_were_taken_back_are_forgotten(self):
        for other in (small_table(), silent_table(7)):
            trial = made(small_table(), "W", "L")
            trial.undo()
            trial.table = other
            self.assert_unchanged(trial, NothingToRedo, trial.redo)
            self.assertEqual(trial.history(), ["W"])

    def test_a_change_is_no_step(self):
        trial = made(silent_table(4), "W")
        trial.change_table(silent_table(5))
        self.assertEqual(trial.undo(), "W")
        self.assertEqual(trial.table, silent_table(5))
        self.assert_unchanged(trial, NothingToUndo, trial.undo)


class LeadsTest(TrialCase):
    def test_before_at_and_after_the_end(self):
        trial = Trial(small_table())
        self.assertIsInstance(trial.leads(), GeneratorType)
        self.assertEqual(list(trial.leads()), [(0, 0)])
        trial.record("W")
        self.assertEqual(list(trial.leads()), [(0, 0), (1, 0)])
        trial.record("L")
        self.assertEqual(list(trial.leads()), [(0, 0), (1, 0), (1, 1)])
        trial.undo()
        self.assertEqual(list(trial.leads()), [(0, 0), (1, 0)])
        self.assertEqual(list(made(silent_table(5), "LLW", "WL").leads()),
                         [(0, 0), (0, 1), (0, 2), (1, 2), (2, 2), (2, 3)])
        trial = made(silent_table(4), "WW")
        trial.change_table(silent_table(2))
        self.assertEqual(list(trial.leads()), [(0, 0), (1, 0), (2, 0)])

    def test_two_generators_of_one_trial(self):
        trial = made(silent_table(5), "WLW")
        first, second = trial.leads(), trial.leads()
        self.assertEqual(next(first), next(second))
        self.assertEqual(list(first), list(second))


class RemainingTest(TrialCase):
    def test_by_hand(self):
        trial = Trial(small_table())
        for word in small_table().words:
            self.assertEqual(trial.remaining(word), small_table().chance(word))
        self.assertEqual(trial.remaining_length(), small_table().mean_length())
        trial.record("W")
        self.assertEqual([trial.remaining(word).coefs for word in ("below 1/2", "no word", "at least 1/2")],
                         [(), (1, -1), (0, 1)])
        self.assertEqual(trial.remaining_length(), Poly(1))

    def test_after_the_end(self):
        for text, word in (("L", "below 1/2"), ("WL", "no word"), ("WW", "at least 1/2")):
            trial = made(small_table(), text)
            for other in ("below 1/2", "no word", "at least 1/2", "?", "", "below 1/3"):
                self.assertEqual(trial.remaining(other), Poly(1) if other == word else Poly())
            self.assertEqual(trial.remaining_length(), Poly())

    def test_texts_that_no_end_says(self):
        for trial in (Trial(small_table()), made(small_table(), "W")):
            for text in ("below 1/3", "?", "", "below 2/4"):
                self.assertEqual(trial.remaining(text), Poly())

    def test_all_further_tries(self):
        for seed in range(10):
            table = some_table(seed, 2 + seed % 6)
            rule = table.rule()
            ended = all_trials(table.limit, table.looks, rule)
            begun = {results[:many] for results in ended for many in range(len(results))}
            for start in sorted(begun)[:12]:
                trial = made(table, *("LW"[won] for won in start))
                further = [results for results in ended if results[:len(start)] == start]
                for share in (Fraction(1, 3), Fraction(5, 7)):
                    chances = {}
                    mean = 0
                    for results in further:
                        later = results[len(start):]
                        chance = path_chance(sum(later), len(later) - sum(later), share)
                        word = rule[ended[results]]
                        chances[word] = chances.get(word, 0) + chance
                        mean += chance * len(later)
                    for word in (*table.words, "?"):
                        self.assertEqual(value_of(trial.remaining(word).coefs, share), chances.get(word, 0))
                    self.assertEqual(value_of(trial.remaining_length().coefs, share), mean)

    def test_one_try_as_the_next_ones_mean(self):
        table = long_table()
        trial = made(table, "W")
        share, rest = Poly(0, 1), Poly(1, -1)
        won, lost = made(table, "W", "W"), made(table, "W", "L")
        self.assertIsNone(won.verdict)
        for word in table.words[:4] + table.words[-4:]:
            self.assertEqual(trial.remaining(word), share * won.remaining(word) + rest * lost.remaining(word))
        self.assertEqual(trial.remaining_length(),
                         1 + share * won.remaining_length() + rest * lost.remaining_length())


class ForkTest(TrialCase):
    def test_the_same_table_steps_and_steps_to_redo(self):
        trial = made(silent_table(6), "W", "LL", "W")
        trial.undo()
        trial.undo()
        other = trial.fork()
        self.assertIs(type(other), Trial)
        self.assertIsNot(other, trial)
        self.assertEqual(state_of(other), state_of(trial))
        self.assertEqual((other.redo(), other.redo()), ("LL", "W"))

    def test_forks_go_on_independently(self):
        trial = made(silent_table(6), "W", "LL")
        trial.undo()
        other = trial.fork()
        before = state_of(trial)
        other.redo()
        other.record("WW")
        other.change_table(silent_table(7))
        other.undo()
        self.assertEqual(state_of(trial), before)
        before = state_of(other)
        self.assertEqual(trial.redo(), "LL")
        trial.record("L")
        trial.table = silent_table(4)
        trial.undo()
        trial.undo()
        self.assertEqual(state_of(other), before)
        self.assertEqual((trial.history(), other.history()), (["W"], ["W", "LL"]))
        self.assertEqual((trial.table, other.table), (silent_table(4), silent_table(7)))


class ReplayTest(TrialCase):
    def test_it_is_a_static_method(self):
        self.assertIsInstance(vars(Trial)["replay"], staticmethod)
        self.assertIs(PaidTrial.replay, Trial.replay)

    def test_steps_in_order(self):
        for replay in (Trial.replay, PaidTrial.replay, Trial(small_table()).replay):
            trial = replay(silent_table(6), ["W", "LL", "", "WL"])
            self.assertIs(type(trial), Trial)
            self.assertEqual((trial.history(), trial.wins, trial.verdict), (["W", "LL", "WL"], 2, None))
            self.assertEqual(trial.undo(), "WL")
            self.assertEqual(state_of(replay(small_table(), [])), state_of(Trial(small_table())))
            self.assertEqual(replay(table=small_table(), steps=["W", "W"]).verdict, "at least 1/2")

    def test_errors(self):
        for replay in (Trial.replay, PaidTrial.replay):
            with self.assertRaises(InvalidResult) as caught:
                replay(silent_table(6), ["W", "LLx", "?"])
            self.assertEqual(caught.exception.index, 2)
            with self.assertRaises(TrialOver) as caught:
                replay(small_table(), ["W", "L", "W"])
            self.assertEqual(caught.exception.word, "no word")
            with self.assertRaises(TrialOver) as caught:
                replay(small_table(), ["W", "LW"])
            self.assertEqual(caught.exception.word, "no word")
            self.assertEqual(replay(small_table(), ["W", "L", ""]).verdict, "no word")

    def test_the_list_and_the_table_stay(self):
        steps, table = ["W", "L"], small_table()
        trial = Trial.replay(table, steps)
        trial.undo()
        self.assertEqual(steps, ["W", "L"])
        trial.redo()
        steps.clear()
        self.assertEqual((trial.history(), table), (["W", "L"], small_table()))

    def test_a_history_is_replayed(self):
        chance = random.Random(8)
        for seed in range(20):
            table = some_table(seed, 8)
            trial = Trial(table)
            while trial.verdict is None:
                trial.record(chance.choice("WL"))
            again = Trial.replay(table, trial.history())
            self.assertEqual(state_of(again), state_of(trial))


if __name__ == "__main__":
    unittest.main()
