"""Worlds: the runners of all ends, and the letters and receipts under way (points 28 to 30)."""

from onescore.errors import NoSuchLetter, UnknownEnd
from onescore.meaning import check_inputs
from onescore.runner import Runner
from onescore.tables import end_tables


def check_index(items, index):
    """Returns None if there is something with this index in a bag, otherwise raises NoSuchLetter."""
    if index < 0 or index >= len(items):
        raise NoSuchLetter("there is nothing with this index in the bag")


class World:
    """The runners of the ends of a clear score, with a bag."""

    def __init__(self, score, inputs):
        check_inputs(score, inputs)
        tables = end_tables(score)
        self.runners = {end: Runner(score.ends, end, tables[end], inputs[end]) for end in score.ends}
        self.under_way = []

    def runner_of(self, end):
        """Returns the runner of an end, or raises UnknownEnd."""
        if end not in self.runners:
            raise UnknownEnd("there is no such end")
        return self.runners[end]

    def work(self, end, count):
        """Lets an end do up to count deeds; returns the number of those that it did."""
        runner = self.runner_of(end)
        done = 0
        while done < count and runner.step() is not None:
            done += 1
        return done

    def flush(self, end):
        """Makes all entries of an end last."""
        self.runner_of(end).flush()

    def checkpoint(self, end):
        """Lets the falls of an end start again from here."""
        self.runner_of(end).checkpoint()

    def fall(self, end, lost):
        """Lets an end fall, which loses the last entries of its journal."""
        self.runner_of(end).fall(lost)

    def post(self, end):
        """Puts everything outgoing of an end into the bag."""
        self.under_way.extend(self.runner_of(end).outgoing())

    def bag(self):
        """Returns the list of what is in the bag."""
        return list(self.under_way)

    def hand_over(self, index):
        """Takes something out of the bag and delivers it to its end."""
        check_index(self.under_way, index)
        item = self.under_way.pop(index)
        self.runners[item[2]].deliver(item)

    def lose(self, index):
        """Takes something out of the bag."""
        check_index(self.under_way, index)
        del self.under_way[index]

    def double(self, index):
        """Puts something in the bag into it once more, at the end."""
        check_index(self.under_way, index)
        self.under_way.append(self.under_way[index])

    def calm_round(self):
        """Lets each end do what it can and post it, and hands over all that is in the bag."""
        for end in list(self.runners):
            runner = self.runners[end]
            while runner.step() is not None:
                pass
            runner.flush()
            self.post(end)
        items = self.under_way
        self.under_way = []
        for item in items:
            self.runners[item[2]].deliver(item)

    def has_ended(self):
        """Tells whether all ends have ended."""
        return all([self.runners[end].has_ended() for end in self.runners])

    def cut(self):
        """Returns the tuple of the numbers of deeds done by the ends."""
        return tuple([len(self.runners[end].done) for end in self.runners])

    def deeds(self, end):
        """Returns the list of the deeds done by an end."""
        return self.runner_of(end).deeds()

    def variables(self, end):
        """Returns the dict of the variables of an end that got a value."""
        return self.runner_of(end).variables()

    def journal(self, end):
        """Returns the list of the entries of an end since its last checkpoint."""
        return self.runner_of(end).journal()

    def unreceipted(self, end, other):
        """Returns the number of letters from an end to another one that are not receipted."""
        return self.runner_of(end).unreceipted(other)
