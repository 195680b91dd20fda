"""Halls, in which several plays are played at once (points 39 and 40)."""

from onescore.errors import NoSuchPlay, StillPlaying, UnknownEnd
from onescore.world import World, check_index


class Hall:
    """Plays whose ends are in houses, and one bag for all their letters and receipts."""

    def __init__(self, houses):
        self.houses = tuple(houses)
        self.begun = 0
        # From the number of each play, in ascending order, to its world and to the dict of the houses of its ends.
        self.worlds = {}
        self.homes = {}
        self.under_way = []

    def begin(self, score, inputs, homes):
        """Begins a play; returns its number."""
        if sorted(homes) != sorted(score.ends):
            raise UnknownEnd("the homes have not the ends of the score as keys")
        for end in score.ends:
            self.check_house(homes[end])
        world = World(score, inputs)
        play = self.begun
        self.worlds[play] = world
        self.homes[play] = dict(homes)
        self.begun += 1
        return play

    def check_house(self, house):
        """Returns None if there is such a house, otherwise raises UnknownEnd."""
        if house not in self.houses:
            raise UnknownEnd("there is no such house")

    def world_of(self, play):
        """Returns the world of a play, or raises NoSuchPlay."""
        if play not in self.worlds:
            raise NoSuchPlay("there is no play with this number")
        return self.worlds[play]

    def runners_in(self, house):
        """Returns the list of pairs of a play and a runner for all that is in a house, in order."""
        return [(play, world.runners[end]) for play, world in self.worlds.items()
                for end in world.runners if self.homes[play][end] == house]

    def work(self, play, end, count):
        """Lets an end of a play do up to count deeds; returns the number of those that it did."""
        return self.world_of(play).work(end, count)

    def tidy(self, house):
        """Makes all entries in a house last, and puts everything outgoing of it into the bag."""
        self.check_house(house)
        for play, runner in self.runners_in(house):
            runner.flush()
            self.under_way.extend([(play, item) for item in runner.outgoing()])

    def fall(self, house):
        """Lets a house fall with all that is in it."""
        self.check_house(house)
        for _, runner in self.runners_in(house):
            runner.fall(len(runner.journal()))

    def bag(self):
        """Returns the list of what is in the bag."""
        return list(self.under_way)

    def deliver(self, play, item):
        """Delivers something to its end, or drops it if the play was put away."""
        if play in self.worlds:
            self.worlds[play].runners[item[2]].deliver(item)

    def hand_over(self, index):
        """Takes something out of the bag and delivers it to its end."""
        check_index(self.under_way, index)
        play, item = self.under_way.pop(index)
        self.deliver(play, item)

    def lose(self, index):
        """Takes something out of the bag."""
        check_index(self.under_way, index)
        del self.under_way[index]

    def double(self, index):
        """Puts something in the bag into it once more, at the end."""
        check_index(self.under_way, index)
        self.under_way.append(self.under_way[index])

    def calm_round(self):
        """Lets all ends do what they can, house by house, tidies up, and hands over all that is in the bag."""
        for house in self.houses:
            for _, runner in self.runners_in(house):
                while runner.step() is not None:
                    pass
            self.tidy(house)
        items = self.under_way
        self.under_way = []
        for play, item in items:
            self.deliver(play, item)

    def has_ended(self, play):
        """Tells whether all ends of a play have ended."""
        return self.world_of(play).has_ended()

    def cut(self, play):
        """Returns the tuple of the numbers of deeds done by the ends of a play."""
        return self.world_of(play).cut()

    def deeds(self, play, end):
        """Returns the list of the deeds done by an end of a play."""
        return self.world_of(play).deeds(end)

    def variables(self, play, end):
        """Returns the dict of the variables of an end of a play that got a value."""
        return self.world_of(play).variables(end)

    def plays(self):
        """Returns the ascending list of the numbers of the plays that are there."""
        return sorted(self.worlds)

    def put_away(self, play):
        """Forgets a play that has ended, or raises StillPlaying."""
        if not self.world_of(play).has_ended():
            raise StillPlaying("an end of the play has not ended")
        del self.worlds[play]
        del self.homes[play]
