"""Points 1, 2 and 28 to 47 together: from the text of a score to the rows of its ends."""

import random
import unittest

from helpers import machines_deeds, plain_way, random_block, random_calls, talk_values, told, without_some
from onescore.accounts import explanation, looks_of, part_explanation
from onescore.clear import is_witness, witness
from onescore.code import code_of, is_sound
from onescore.errors import Unclear
from onescore.exchange import exchanged, may_exchange
from onescore.flat import Score, read_score
from onescore.hall import Hall
from onescore.judge import judge
from onescore.listing import read_code, write_code
from onescore.machine import Machine
from onescore.meaning import PlainRun, is_even
from onescore.mend import mended
from onescore.order import clocks
from onescore.prices import greatest_price, least_price
from onescore.printer import print_tree
from onescore.reader import read_tree
from onescore.saving import lasting_cut, open_world, save_world
from onescore.tables import end_tables, paper
from onescore.watch import Watcher
from onescore.ways import is_way, seen
from onescore.world import World

TEXTS = [
    "ends a, b play { while a: n { a -> b: more(n) as k a sets n = n - 1 } a -> b: stop(0) as k }",
    """# Two buyers and a seller.
    ends ann, bob, shop
    part ask(who, whom) { who asks title who -> whom: title(title) as title whom -> who: price(title * 3) as price }
    play {
        call ask(ann, shop)
        ann -> bob: half(price - price * 2147483648) as share
        if bob: share < 100 { bob -> shop: buy(share) as money bob -> ann: yes(1) as fine shop asks stock }
        else { bob -> shop: leave(0) as money bob -> ann: no(0) as fine }
        while bob: share { bob sets share = share - share call ask(bob, shop) }
    }""",
    "ends a, b, c play { a asks n while a: n { if a: n < 3 { a -> b: low(n) as x } else { a -> c: high(n) as x } a asks n } "
    "b -> c: sum(x) as y c -> a: all(x + y) as total }",
    "ends a, b play { while a: 1 { while b: m < 2 { b asks m b sets m = m + 1 } a sets n = n + 1 } }",
    "ends a, b, c, d, e, f play { if a: n == 0 { b asks x } else { c asks x } a -> b: k(1) as k b -> c: k(k + 1) as k "
    "c -> d: k(k + 1) as k d -> e: k(k + 1) as k e -> f: k(k + 1) as k f -> a: k(k + 1) as k }",
]


def texts():
    yield from TEXTS
    for seed in range(90):
        rng = random.Random(seed)
        ends = tuple("abcdef"[:rng.randint(2, 4)])
        block = without_some(rng, told(random_block(rng, ends, 6, values=talk_values), ends), rng.choice([0, 0.3, 1]))
        yield print_tree((ends, (), block))


def clear_scores():
    """Clear scores with inputs and the random numbers to try them with: those of the texts, mended."""
    for seed, text in enumerate(texts()):
        rng = random.Random(seed)
        tree = mended(read_tree(text))
        score = read_score(print_tree(tree))
        yield tree, score, {end: [rng.choice([0, 1, 2, 5]) for _ in range(rng.randint(0, 5))] for end in score.ends}, rng


class Whole(unittest.TestCase):
    def test_texts_are_clear_or_have_a_witness(self):
        found = {True: 0, False: 0}
        for text in texts():
            score = read_score(text)
            ways = witness(score)
            found[ways is None] += 1
            if ways is None:
                self.assertIs(judge(score, paper(score)), True)
            else:
                self.assertIs(is_witness(score, *ways), True)
                with self.assertRaises(Unclear):
                    World(score, {end: [] for end in score.ends})
            self.assertIsNone(witness(Score(mended(read_tree(text)))))
        self.assertGreater(min(found.values()), 5)

    def test_worlds(self):
        for tree, score, inputs, rng in clear_scores():
            run = PlainRun(score, inputs)
            world = World(score, inputs)
            for _ in range(5):
                for name, arguments in random_calls(rng, world, score.ends, 12):
                    getattr(world, name)(*arguments)
                self.check_moment(world, score, inputs, run)
                world = open_world(score, inputs, save_world(world))
            for _ in range(len(run.deeds) + 1):
                world.calm_round()
            self.assertIs(world.has_ended(), True)
            self.assertEqual({end: tuple(world.deeds(end)) for end in score.ends}, run.rows)
            self.assertEqual({end: world.variables(end) for end in score.ends}, run.variables)
            for end in score.ends:
                watcher = Watcher(score, end)
                for kind, _, *parts in run.rows[end]:
                    if kind in ("send", "get"):
                        self.assertIn((kind, *parts[:2]), watcher.next_letters())
                        self.assertIs(getattr(watcher, kind)(*parts[:2]), True)
            price = sum(deed[0] == "send" for deed in run.deeds)
            self.assertTrue(least_price(score) <= price <= greatest_price(score))

    def check_moment(self, world, score, inputs, run):
        """What holds of a world at every moment."""
        cut = world.cut()
        self.assertIs(is_even(run, cut), True)
        self.assertIs(is_even(run, lasting_cut(world)), True)
        looks = {end: looks_of(world.deeds(end), score, end) for end in score.ends}
        way = plain_way(score, run.deeds)
        for end, many in zip(score.ends, cut):
            self.assertEqual(tuple(world.deeds(end)), run.rows[end][:many])
            self.assertEqual(looks[end], seen(score, way, end)[:many])
        if sum(cut) <= 60:
            found = part_explanation(score, looks)
            self.assertIs(is_way(score, found), True)
            for end in score.ends:
                self.assertEqual(seen(score, found, end)[:len(looks[end])], looks[end])
        for index, clock in enumerate(clocks(run)):
            end = score.ends.index(run.deeds[index][1])
            if clock[end] <= cut[end]:
                self.assertTrue(all(one <= other for one, other in zip(clock, cut)))

    def test_accounts_of_whole_runs(self):
        explained = 0
        for tree, score, inputs, rng in clear_scores():
            run = PlainRun(score, inputs)
            account = {end: looks_of(list(run.rows[end]), score, end) for end in score.ends}
            if len(run.deeds) <= 60:
                explained += 1
                self.assertEqual(explanation(score, account), plain_way(score, run.deeds))
        self.assertGreater(explained, 20)

    def test_machines(self):
        for tree, score, inputs, rng in clear_scores():
            run = PlainRun(score, inputs)
            machines = {}
            for end, table in end_tables(score).items():
                code = read_code(write_code(code_of(table)))
                self.assertIs(is_sound(score.ends, code), True)
                machines[end] = Machine(end, code, inputs[end])
            deeds = machines_deeds(machines, rng)
            self.assertEqual({end: tuple(rows) for end, rows in deeds.items()}, run.rows)
            self.assertEqual({end: machine.variables() for end, machine in machines.items()}, run.variables)

    def test_machines_and_runners_talk_with_each_other(self):
        # One end is a machine, and what it does is done again by its runner: so the others cannot tell.
        for tree, score, inputs, rng in clear_scores():
            run = PlainRun(score, inputs)
            world = World(score, inputs)
            end = rng.choice(score.ends)
            machine = Machine(end, code_of(end_tables(score)[end]), inputs[end])
            done = []
            for _ in range(len(run.deeds) + 2):
                world.calm_round()
                letters = {}
                for _, other, label, value in world.journal(end):
                    letters.setdefault(other, []).append((label, value))
                for kind, _, other, *_ in [deed for deed in done if deed[0] == "get"]:
                    letters[other].pop(0)
                done += machine.run(letters, 10 ** 6)[0]
            self.assertEqual((tuple(done), machine.has_ended()), (run.rows[end], True))

    def test_one_hall_for_all(self):
        hall, runs = Hall(("x", "y", "z")), {}
        for tree, score, inputs, rng in clear_scores():
            homes = {end: rng.choice("xyz") for end in score.ends}
            runs[hall.begin(score, inputs, homes)] = (score, PlainRun(score, inputs))
        rng = random.Random(9)
        for at in range(max(len(run.deeds) for _, run in runs.values()) + 1):
            if at < 9:
                hall.fall(rng.choice("xyz"))
            if rng.random() < 0.1 and hall.bag():
                hall.lose(0)
            hall.calm_round()
        for play, (score, run) in runs.items():
            self.assertEqual({end: tuple(hall.deeds(play, end)) for end in score.ends}, run.rows)
            self.assertEqual({end: hall.variables(play, end) for end in score.ends}, run.variables)
            self.assertEqual(hall.cut(play), tuple(len(run.rows[end]) for end in score.ends))
            hall.put_away(play)
        self.assertEqual(hall.plays(), [])

    def test_exchanged_scores(self):
        done = 0
        for tree, score, inputs, rng in clear_scores():
            for at in range(len(tree[2])):
                if may_exchange(tree, (at,)):
                    done += 1
                    other = Score(exchanged(tree, (at,)))
                    world = World(other, inputs)
                    while not world.has_ended():
                        world.calm_round()
                    run = PlainRun(score, inputs)
                    for end in score.ends:
                        self.assertEqual([deed[:2] + deed[3:] if deed[0] == "while" else deed for deed in world.deeds(end)],
                                         [deed[:2] + deed[3:] if deed[0] == "while" else deed for deed in run.rows[end]])
        self.assertGreater(done, 10)


if __name__ == "__main__":
    unittest.main()
