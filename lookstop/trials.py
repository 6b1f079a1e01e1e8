"""Trials that are led try by try, with steps that can be taken back, and trials in which tries and looks are paid."""

from lookstop.errors import InvalidResult, NothingToRedo, NothingToUndo, OverBudget, TrialOver
from lookstop.paths import sum_of_paths, ways_from
from lookstop.tables import cost_of

WIN = "W"
LOSS = "L"


class Trial:
    """A trial that follows a table. Its recorded tries meet no end of the table before the last one."""

    def __init__(self, table):
        self._keep(table, [], [])

    @property
    def wins(self):
        """The number of recorded wins."""
        return self._wins

    @property
    def losses(self):
        """The number of recorded losses."""
        return len(self._results) - self._wins

    @property
    def tries(self):
        """The number of recorded tries."""
        return len(self._results)

    @property
    def verdict(self):
        """The word with which the trial ended, or None."""
        return self._verdict

    @property
    def table(self):
        """The table of the trial."""
        return self._table

    @table.setter
    def table(self, value):
        self.change_table(value)

    def record(self, results):
        """Record the tries of a text of the letters W and L, all of them or none, and return the verdict."""
        self._check_results(results)
        if results != "":
            self._keep(self._table, self._steps + [results], [])
        return self._verdict

    def undo(self):
        """Take back the latest step and return its text."""
        if len(self._steps) == 0:
            raise NothingToUndo("there is no step to take back")
        text = self._steps[-1]
        self._keep(self._table, self._steps[:-1], self._undone + [text])
        return text

    def redo(self):
        """Record again the step that was taken back last, and return its text."""
        self._check_redo()
        text = self._undone[-1]
        self._keep(self._table, self._steps + [text], self._undone[:-1])
        return text

    def history(self):
        """Return the list of the texts of the steps, the oldest first."""
        return list(self._steps)

    def change_table(self, table):
        """Give the trial another table and forget the steps that were taken back."""
        self._check_table(table)
        self._keep(table, self._steps, [])

    def leads(self):
        """Yield the counts that the trial has gone through, from (0, 0) to the present one."""
        for count in _counts_along(self._results):
            yield count

    def remaining(self, word):
        """Return the polynomial of the chance that the trial, as it stands, ends with the word."""
        return sum_of_paths({count: ways for count, ways, said in self._ends_ahead() if said == word})

    def remaining_length(self):
        """Return the polynomial of the mean number of further tries."""
        return sum_of_paths({count: ways * sum(count) for count, ways, _ in self._ends_ahead()})

    def fork(self):
        """Return a new trial with the same table, steps and steps to redo."""
        twin = Trial(self._table)
        twin._keep(self._table, self._steps, self._undone)
        return twin

    @staticmethod
    def replay(table, steps):
        """Return a new trial in which the texts were recorded in order."""
        trial = Trial(table)
        for text in steps:
            trial.record(text)
        return trial

    def __len__(self):
        return len(self._results)

    def _keep(self, table, steps, undone):
        """Take over the table, the steps and the steps that were taken back."""
        results = "".join(steps)
        wins = results.count(WIN)
        self._verdict = _word_at_end(table, wins, len(results) - wins)
        self._results = results
        self._wins = wins
        self._table = table
        self._steps = list(steps)
        self._undone = list(undone)

    def _check_results(self, results):
        """Raise the error of a text that cannot be recorded."""
        for index, letter in enumerate(results):
            if letter != WIN and letter != LOSS:
                raise InvalidResult(index)
        _check_tries(self._table, self._results + results)

    def _check_redo(self):
        if len(self._undone) == 0:
            raise NothingToRedo("there is no step to record again")

    def _check_table(self, table):
        """Raise TrialOver if the recorded tries do not fit the table."""
        _check_tries(table, self._results)

    def _ends_ahead(self):
        """Return a list of tuples (count, ways, word) of the ends that can still be reached.

        The counts are those of the further tries. After the end, it is the only one ahead, without further tries.
        """
        found = []
        for (wins, losses), ways in ways_from(self._table, self._wins, self.losses).items():
            word = _word_at_end(self._table, wins, losses)
            if word is not None:
                found.append(((wins - self._wins, losses - self.losses), ways, word))
        return found


class PaidTrial(Trial):
    """A trial in which tries and looks are paid, never more than its budget."""

    def __init__(self, table, budget, *, per_try=1, per_look=0):
        Trial.__init__(self, table)
        self._budget = budget
        self._per_try = per_try
        self._per_look = per_look

    @property
    def paid(self):
        """The price of the recorded tries and of the looks among them."""
        return cost_of(self._table.looks, len(self._results), self._per_try, self._per_look)

    @property
    def budget(self):
        """The most that may be paid."""
        return self._budget

    @budget.setter
    def budget(self, value):
        self.change_budget(value)

    def record(self, results):
        """Record the tries of a text if the budget allows it, and return the verdict."""
        self._check_results(results)
        self._check_price(self._table, self.tries + len(results), self._budget)
        return super().record(results)

    def redo(self):
        """Record again the step that was taken back last if the budget allows it, and return its text."""
        self._check_redo()
        self._check_price(self._table, self.tries + len(self._undone[-1]), self._budget)
        return super().redo()

    def change_table(self, table):
        """Give the trial another table if the budget allows it, and forget the steps that were taken back."""
        self._check_table(table)
        self._check_price(table, self.tries, self._budget)
        super().change_table(table)

    def change_budget(self, budget):
        """Give the trial another budget, which is not less than what is paid."""
        self._check_price(self._table, self.tries, budget)
        self._budget = budget

    def fork(self):
        """Return a new trial with the same table, budget and prices, the same steps and steps to redo."""
        twin = PaidTrial(self._table, self._budget, per_try=self._per_try, per_look=self._per_look)
        twin._keep(self._table, self._steps, self._undone)
        return twin

    def _check_price(self, table, tries, budget):
        """Raise OverBudget if so many tries with the table cost more than the budget."""
        missing = cost_of(table.looks, tries, self._per_try, self._per_look) - budget
        if missing > 0:
            raise OverBudget(missing)


def _counts_along(results):
    """Return the list of the counts that the tries go through, from (0, 0) onwards."""
    wins, losses = (0, 0)
    counts = [(0, 0)]
    for letter in results:
        if letter == WIN:
            wins += 1
        else:
            losses += 1
        counts.append((wins, losses))
    return counts


def _word_at_end(table, wins, losses):
    """Return the word of the table for a count if it is an end, otherwise None."""
    return table.word_at(wins, losses) if table.is_end(wins, losses) else None


def _check_tries(table, results):
    """Raise TrialOver if the tries meet an end of the table before the last of them."""
    for wins, losses in _counts_along(results)[:-1]:
        word = _word_at_end(table, wins, losses)
        if word is not None:
            raise TrialOver(word)
