"""What several test files share: texts, random trees, and slow but plain ways to work things out."""

import pathlib
import random
import sys

ROOT = pathlib.Path(__file__).resolve().parent.parent
if str(ROOT) not in sys.path:
    sys.path.insert(0, str(ROOT))

from onescore.errors import InvalidScore, SyntaxProblem
from onescore.checks import check_tree
from onescore.flat import Score
from onescore.reader import read_tree

PACKAGE = ROOT / "onescore"
ZERO = ("number", 0)
ONE = ("number", 1)
END = ("end",)
MOST = 4294967295
# Too many states for one end: it gets to know only at last how many letters ago it was where.
LETTERS = "if a: 1 { a -> b: x(0) as n } else { a -> b: y(0) as n } "
TOO_LARGE = "ends a, b play { while a: 1 { " + LETTERS + "} a -> b: x(0) as n " + LETTERS * 9 + "a -> b: z(0) as n }"


def place_of_failure(text):
    """The place at which reading a text fails, or None if it can be read."""
    try:
        read_tree(text)
    except SyntaxProblem as problem:
        return problem.start
    return None


def broken_rule(tree):
    """The rule that a tree breaks, or None."""
    try:
        result = check_tree(tree)
    except InvalidScore as problem:
        return problem.rule
    assert result is None
    return None


def random_value(rng, depth=2):
    if depth == 0 or rng.random() < 0.4:
        return rng.choice([ZERO, ONE, ("number", 4294967295), ("name", "x"), ("name", "y")])
    return (rng.choice(["<", "==", "+", "-", "*"]), random_value(rng, depth - 1), random_value(rng, depth - 1))


def few_values(rng):
    return rng.choice([ZERO, ZERO, ONE, ("name", "x")])


def random_statement(rng, ends, many, loops, values):
    """A statement that holds at most so many statements, itself counted in."""
    end = rng.choice(ends)
    sorts = ["set", "ask"] + ["message"] * (6 if len(ends) > 1 else 0)
    if many > 1:
        sorts += ["if"] * 4
        if loops < 3:
            sorts += ["while"] * 2
    sort = rng.choice(sorts)
    if sort == "set":
        return ("set", end, rng.choice(["x", "y"]), values(rng))
    if sort == "ask":
        return ("ask", end, rng.choice(["x", "y"]))
    if sort == "message":
        other = rng.choice([name for name in ends if name != end])
        return ("message", end, other, rng.choice("klm"), values(rng), rng.choice(["x", "x", "x", "y"]))
    if sort == "while":
        return ("while", end, values(rng), random_block(rng, ends, many - 1, loops + 1, values))
    cut = rng.randint(0, many - 1)
    return ("if", end, values(rng), random_block(rng, ends, cut, loops, values),
            random_block(rng, ends, many - 1 - cut, loops, values))


def blocks_of(statement):
    """The blocks inside of a statement."""
    return {"if": statement[3:], "while": statement[3:]}.get(statement[0], ())


def size_of(block):
    """The number of statements of a block, those inside of others counted in."""
    return sum(1 + sum(size_of(inner) for inner in blocks_of(statement)) for statement in block)


def random_block(rng, ends, many, loops=0, values=few_values):
    """A block of at most so many statements, those inside of others counted in."""
    block = ()
    while many > 0 and rng.random() < 0.9:
        statement = random_statement(rng, ends, rng.randint(1, many), loops, values)
        many -= size_of((statement,))
        block += (statement,)
    return block


def random_score(seed, most_ends=3, many=8):
    """A played out score of few statements, the same for the same seed."""
    rng = random.Random(seed)
    ends = tuple("abcdef"[:rng.randint(1 if most_ends == 1 else 2, most_ends)])
    return Score((ends, (), random_block(rng, ends, many)))


def told(block, ends, counter=None):
    """A block in which each if and while tells all other ends, so that the score is clear (point 32)."""
    counter = [] if counter is None else counter
    found = ()
    for statement in block:
        if statement[0] not in ("if", "while"):
            found += (statement,)
            continue
        number = len(counter)
        counter.append(statement)
        tells = {answer: tuple(("message", statement[1], end, f"{answer}{number}", ZERO, "told")
                               for end in ends if end != statement[1]) for answer in ("yes", "no")}
        inner = [told(part, ends, counter) for part in statement[3:]]
        if statement[0] == "if":
            found += (statement[:3] + (tells["yes"] + inner[0], tells["no"] + inner[1]),)
        else:
            found += (statement[:3] + (tells["yes"] + inner[0],),) + tells["no"]
    return found


def without_some(rng, block, share):
    """A block without some of its messages into the variable told."""
    found = ()
    for statement in block:
        if statement[0] == "message" and statement[5] == "told" and rng.random() < share:
            continue
        found += (statement[:3] + tuple(without_some(rng, part, share) for part in statement[3:])
                  if statement[0] in ("if", "while") else statement,)
    return found


def random_told_score(seed, most_ends=3, many=6, share=0.0):
    """A played out score with tells, of which a share is left out; without share, it is clear."""
    rng = random.Random(seed)
    ends = tuple("abcdef"[:rng.randint(2, most_ends)])
    return Score((ends, (), without_some(rng, told(random_block(rng, ends, many), ends), share)))


def acts(statement, end):
    """What an end sees of a statement without its answer, or None if it does not concern it."""
    kind = statement[0]
    if kind == "message":
        _, sender, receiver, label, value, variable = statement
        return {sender: ("send", receiver, label, value), receiver: ("get", sender, label, variable)}.get(end)
    return (kind,) + statement[2:] if statement[1] == end else None


def looks_from(score, end, position):
    """The pairs of a look, or None, and the next position for each step from a position."""
    if position == len(score.statements):
        return []
    statement = score.statements[position]
    act = acts(statement, end)
    goals = score.next[position]
    if act is None:
        return [(None, goal) for goal in goals]
    if statement[0] in ("if", "while"):
        head = ("while", position) + act[1:] if statement[0] == "while" else act
        return [(head + (answer,), goal) for answer, goal in zip(("yes", "no"), goals)]
    return [(act, goals[0])]


def plain_rest(score, end, positions):
    """The rest of positions as a frozenset, worked out by steps until nothing new comes."""
    reached = set(positions)
    while True:
        more = {goal for position in reached for look, goal in looks_from(score, end, position) if look is None}
        if more <= reached:
            return frozenset(reached)
        reached |= more


def plain_behind(score, end, positions):
    """A dict from each look of a set to the set behind it."""
    goals = {}
    for position in positions:
        for look, goal in looks_from(score, end, position):
            if look is not None:
                goals.setdefault(look, set()).add(goal)
    return {look: plain_rest(score, end, places) for look, places in goals.items()}


def plain_sets(score, end):
    """All sets that can be reached by looks, with the dict from looks to the sets behind for each."""
    waiting = [plain_rest(score, end, {0})]
    found = {}
    while waiting:
        positions = waiting.pop()
        if positions not in found:
            found[positions] = plain_behind(score, end, positions)
            waiting.extend(found[positions].values())
    return found


def must_act(score, end, position):
    return position == len(score.statements) or acts(score.statements[position], end) is not None


def plain_agree(score, end, first, second):
    """Whether two positions at which the end must act agree, by the words of point 11."""
    last = len(score.statements)
    if last in (first, second):
        return first == second
    one, other = score.statements[first], score.statements[second]
    if one[0] != other[0]:
        return False
    if one[0] == "message" and end == one[1] == other[1]:
        return (one[2], one[3], one[4]) == (other[2], other[3], other[4])
    if one[0] == "message" and end == one[2] == other[2]:
        return one[1] == other[1] and (one[3] != other[3] or one[5] == other[5])
    if one[0] == "message":
        return False
    return first == second if one[0] == "while" else one[2:] == other[2:]


def plain_clear(score, end):
    """Whether a score is clear for an end, by all sets that can be reached."""
    for positions in plain_sets(score, end):
        acting = [position for position in positions if must_act(score, end, position)]
        if not all(plain_agree(score, end, one, other) for one in acting for other in acting):
            return False
    return True


def all_ways(score, longest):
    """All ways with at most so many steps, with their places."""
    found = [([], 0)]
    for way, place in found:
        if len(way) < longest and place < len(score.statements):
            goals = score.next[place]
            answers = ("yes", "no") if score.statements[place][0] in ("if", "while") else ("",)
            found.extend([(way + [(place, answer)], goal) for answer, goal in zip(answers, goals)])
    return found


def goals(state):
    """The numbers in a state, in the order in which they stand in it."""
    return {"get": [choice[2] for choice in state[2]] if state[0] == "get" else (), "end": (),
            "if": state[-2:], "while": state[-2:]}.get(state[0], state[-1:])


def without_goals(state):
    if state[0] == "get":
        return state[:2] + (tuple(choice[:2] for choice in state[2]),)
    return state[:len(state) - len(goals(state))]


def with_numbers(state, numbers):
    if state[0] == "get":
        return state[:2] + (tuple(choice[:2] + (goal,) for choice, goal in zip(state[2], numbers)),)
    return state[:len(state) - len(numbers)] + tuple(numbers)


def shuffled(rng, table, copies):
    """A table with the same runs, with superfluous and alike states, and state 0 at its place."""
    many = len(table) * copies
    order = list(range(1, many))
    rng.shuffle(order)
    order = [0] + order
    places = [order.index(at) for at in range(many)]
    rows = [None] * many
    for at in range(many):
        numbers = [places[goal + len(table) * rng.randrange(copies)] for goal in goals(table[at % len(table)])]
        rows[places[at]] = with_numbers(table[at % len(table)], numbers)
    return tuple(rows)


def plain_number(tree, variables):
    """The number of a tree, by recursion."""
    if tree[0] == "number":
        return tree[1]
    if tree[0] == "name":
        return variables.get(tree[1], 0)
    left, right = plain_number(tree[1], variables), plain_number(tree[2], variables)
    return {"<": int(left < right), "==": int(left == right), "+": left + right, "-": left - right,
            "*": left * right}[tree[0]] & MOST


class SlowRun:
    """The plain run of a tree without parts and calls, along its blocks."""

    def __init__(self, tree, inputs):
        self.deeds = []
        self.variables = {end: {} for end in tree[0]}
        self.inputs = {end: list(inputs[end]) for end in tree[0]}
        self.play(tree[2], 0)
        self.rows = {end: tuple(deed for deed in self.deeds if deed[1] == end) for end in tree[0]}

    def play(self, block, position):
        for statement in block:
            self.do(statement, position)
            position += size_of((statement,))

    def do(self, statement, position):
        kind, end = statement[:2]
        number = lambda tree: plain_number(tree, self.variables[end])
        if kind == "message":
            _, _, other, label, value, variable = statement
            self.deeds += [("send", end, other, label, number(value)), ("get", other, end, label, number(value))]
            self.variables[other][variable] = number(value)
        elif kind in ("set", "ask"):
            given = self.inputs[end]
            found = number(statement[3]) if kind == "set" else given.pop(0) if given else 0
            self.variables[end][statement[2]] = found
            self.deeds.append((kind, end, statement[2], found))
        elif kind == "if":
            answer = number(statement[2]) != 0
            self.deeds.append((kind, end, "yes" if answer else "no"))
            self.play(statement[3 if answer else 4], position + 1 + (0 if answer else size_of(statement[3])))
        else:
            for _ in range(8):
                if number(statement[2]) == 0:
                    break
                self.deeds.append((kind, end, position, "yes"))
                self.play(statement[3], position + 1)
            self.deeds.append((kind, end, position, "no"))


class SlowRunner:
    """A runner that knows which letters it took, and works out everything else from the beginning each time."""

    def __init__(self, ends, name, table, inputs):
        self.name, self.table, self.inputs = name, table, list(inputs)
        self.others = [end for end in ends if end != name]
        self.took, self.steps, self.lasting, self.tray = [], 0, 0, {}
        self.gone = {other: set() for other in self.others}
        self.greatest = {other: 0 for other in self.others}
        self.start = (0, 0, self.gone, self.greatest)

    def story(self, most=None):
        """The deeds, variables, letters with the numbers of letters taken before, and the state reached."""
        deeds, variables, letters, rounds, at = [], {}, [], {}, 0
        given, took = list(self.inputs), list(self.took)
        while most is None or len(deeds) < most:
            state = self.table[at]
            kind = state[0]
            if kind == "end" or (kind == "get" and not took):
                break
            if kind == "get":
                _, _, label, value = took.pop(0)
                variable, at = [choice[1:] for choice in state[2] if choice[0] == label][0]
                variables[variable] = value
                deeds.append(("get", self.name, state[1], label, value))
            elif kind == "send":
                _, other, label, value, at = state
                number = sum(1 for letter, _ in letters if letter[2] == other)
                letter = ("letter", self.name, other, number, label, plain_number(value, variables))
                letters.append((letter, len(self.took) - len(took)))
                deeds.append(("send", self.name, other) + letter[4:])
            elif kind in ("set", "ask"):
                found = plain_number(state[2], variables) if kind == "set" else given.pop(0) if given else 0
                variables[state[1]] = found
                deeds.append((kind, self.name, state[1], found))
                at = state[-1]
            else:
                yes = plain_number(state[-3], variables) != 0
                if kind == "while":
                    yes = yes and rounds.get(state[1], 0) < 8
                    rounds[state[1]] = rounds.get(state[1], 0) + 1 if yes else 0
                deeds.append((kind, self.name) + state[1:-3] + ("yes" if yes else "no",))
                at = state[-2] if yes else state[-1]
        return deeds, variables, letters, self.table[at]

    def taken(self, other, most=None):
        return sum(1 for entry in self.took[:most] if entry[1] == other)

    def step(self):
        state = self.story(self.steps)[3]
        if state == END:
            return None
        if state[0] == "get":
            place = (state[1], self.taken(state[1]))
            if place not in self.tray:
                return None
            self.took.append(("took", state[1]) + self.tray.pop(place))
        self.steps += 1
        return self.deeds()[-1]

    def deliver(self, item):
        if item[2] != self.name:
            return
        other = item[1]
        if item[0] == "letter":
            if item[3] >= self.taken(other):
                self.tray[(other, item[3])] = item[4:]
        elif item[3] > self.greatest[other]:
            made = {letter[3] for letter, _ in self.story(self.steps)[2] if letter[2] == other}
            self.greatest = {**self.greatest, other: item[3]}
            self.gone = {**self.gone, other: self.gone[other] | {number for number in made if number < item[3]}}

    def letters(self, other):
        return [(letter, before) for letter, before in self.story(self.steps)[2]
                if letter[2] == other and letter[3] not in self.gone[other]]

    def outgoing(self):
        found = []
        for other in self.others:
            found += [letter for letter, before in self.letters(other) if before <= self.lasting]
            if self.taken(other, self.lasting):
                found.append(("receipt", self.name, other, self.taken(other, self.lasting)))
        return found

    def flush(self):
        self.lasting = len(self.took)

    def checkpoint(self):
        self.flush()
        self.start = (len(self.took), self.steps, self.gone, self.greatest)

    def fall(self, lost):
        self.took = self.took[:max(self.lasting, len(self.took) - lost)]
        self.lasting = len(self.took)
        self.tray = {}
        _, _, self.gone, self.greatest = self.start
        self.steps = len(self.story()[0])

    def journal(self):
        return self.took[self.start[0]:]

    def has_ended(self):
        return self.story(self.steps)[3] == END

    def deeds(self):
        return self.story(self.steps)[0]

    def variables(self):
        return self.story(self.steps)[1]

    def unreceipted(self, other):
        return len(self.letters(other))


def steps(one):
    """The deeds that a runner does until it can do none."""
    return list(iter(one.step, None))


def talk_values(rng):
    return rng.choice([ONE, ("name", "x"), ("name", "y"), ("-", ("name", "x"), ONE), ("<", ("name", "y"), ONE)])


def talk(seed, most_ends=4, many=7):
    """A tree whose score is clear, with inputs."""
    rng = random.Random(seed)
    ends = tuple("abcdef"[:rng.randint(2, most_ends)])
    block = told(random_block(rng, ends, many, values=talk_values), ends)
    inputs = {end: [rng.choice([0, 1, 2, 5, MOST]) for _ in range(rng.randint(0, 4))] for end in ends}
    return (ends, (), block), inputs


class SlowWorld:
    """A world of slow runners."""

    def __init__(self, ends, tables, inputs):
        self.ends = ends
        self.runners = {end: SlowRunner(ends, end, tables[end], inputs[end]) for end in ends}
        self.items = []

    def work(self, end, count):
        return sum(1 for _ in range(count) if self.runners[end].step() is not None)

    def flush(self, end):
        self.runners[end].flush()

    def checkpoint(self, end):
        self.runners[end].checkpoint()

    def fall(self, end, lost):
        self.runners[end].fall(lost)

    def post(self, end):
        self.items = self.items + self.runners[end].outgoing()

    def hand_over(self, index):
        item = self.items[index]
        self.lose(index)
        self.runners[item[2]].deliver(item)

    def lose(self, index):
        self.items = self.items[:index] + self.items[index + 1:]

    def double(self, index):
        self.items = self.items + [self.items[index]]

    def calm_round(self):
        for end in self.ends:
            steps(self.runners[end])
            self.flush(end)
            self.post(end)
        for _ in range(len(self.items)):
            self.hand_over(0)

    def bag(self):
        return self.items

    def has_ended(self):
        return all(one.has_ended() for one in self.runners.values())

    def cut(self):
        return tuple(len(self.runners[end].deeds()) for end in self.ends)

    def deeds(self, end):
        return self.runners[end].deeds()

    def variables(self, end):
        return self.runners[end].variables()

    def journal(self, end):
        return self.runners[end].journal()

    def unreceipted(self, end, other):
        return self.runners[end].unreceipted(other)


def world_looks(world, ends):
    """All that can be seen of a world."""
    return (world.bag(), world.has_ended(), world.cut(),
            [(world.deeds(end), world.variables(end), world.journal(end)) for end in ends],
            [world.unreceipted(end, other) for end in ends for other in ends if end != other])


def random_calls(rng, world, ends, many):
    """Does random calls, and yields the name and the arguments of each one, to be done, in turn."""
    names = (["work"] * 4 + ["post"] * 3 + ["hand_over"] * 5 + ["flush"] * 2 +
             rng.choice([[], ["fall"], ["fall", "fall", "checkpoint"], ["checkpoint"]]) +
             rng.choice([[], ["lose"], ["double"], ["lose", "double", "double"]]) + rng.choice([[], ["calm_round"]]))
    for _ in range(many):
        name = rng.choice(names)
        if name in ("hand_over", "lose", "double"):
            if world.bag():
                yield name, (rng.randrange(len(world.bag())),)
        elif name == "calm_round":
            yield name, ()
        else:
            more = {"work": [0, 1, 2, 9], "fall": [0, 0, 1, 2, 9]}.get(name)
            yield name, (rng.choice(ends),) + ((rng.choice(more),) if more else ())


def hand_letters(waiting, deeds):
    """Puts the letters that deeds send behind those that wait, lists of pairs for each pair of ends."""
    for kind, end, *parts in deeds:
        if kind == "send":
            waiting.setdefault((end, parts[0]), []).append(tuple(parts[1:]))


def machines_deeds(machines, rng, most=100000):
    """The deeds of machines that talk with each other: letters in portions, and a few deeds at a time."""
    waiting = {}
    deeds = {end: [] for end in machines}
    for _ in range(most):
        if all(machine.has_ended() for machine in machines.values()):
            break
        end = rng.choice(sorted(machines))
        letters = {other: list(waiting.get((other, end), [])) for other in machines if other != end}
        if rng.random() < 0.5:
            letters = {other: rows[:rng.randint(0, len(rows))] for other, rows in letters.items()}
        done, taken = machines[end].run(letters, rng.choice([0, 1, 2, 5, 1000]))
        for other, many in taken.items():
            assert many > 0 and waiting[(other, end)][:many] == letters[other][:many]
            del waiting[(other, end)][:many]
        deeds[end] += done
        hand_letters(waiting, done)
    return deeds


def plain_way(score, deeds):
    """The way along which a plain run goes, from its deeds."""
    way, position, at = [], 0, 0
    while position < len(score.statements):
        kind = score.statements[position][0]
        answer = deeds[at][-1] if kind in ("if", "while") else ""
        way.append((position, answer))
        position = score.next[position][1 if answer == "no" else 0]
        at += 2 if kind == "message" else 1
    return way


def random_way(rng, score, longest):
    """A way with at most so many steps; whiles are answered yes more often than not."""
    way, position = [], 0
    while len(way) < longest and position < len(score.statements):
        answer = ""
        if score.statements[position][0] in ("if", "while"):
            answer = rng.choice(["yes", "yes", "no"] if score.statements[position][0] == "while" else ["yes", "no"])
        way.append((position, answer))
        position = score.next[position][1 if answer == "no" else 0]
    return way


def node_number(terms, node, given):
    """The number of a node of terms for given numbers of those that nobody knows."""
    key, numbers = terms.nodes[node], lambda part: node_number(terms, part, given)
    if key[0] == "unknown":
        return given[node]
    if key[0] == "bit":
        return int(node_holds(terms, key[1], given))
    if key[0] == "choice":
        return numbers(key[2] if node_holds(terms, key[1], given) else key[3])
    if key[0] in ("+", "-", "*"):
        left, right = numbers(key[1]), numbers(key[2])
        return {"+": left + right, "-": left - right, "*": left * right}[key[0]] & MOST
    total = 0
    for factors, many in terms.forms[node]:
        for factor in factors:
            many *= numbers(factor)
        total += many
    return total & MOST


def node_holds(terms, condition, given):
    """Whether a condition holds for given numbers of those that nobody knows."""
    if condition < 0:
        return not node_holds(terms, -condition, given)
    key = terms.nodes[condition]
    if key[0] == "both":
        return node_holds(terms, key[1], given) and node_holds(terms, key[2], given)
    if key[0] == "same":
        return node_number(terms, key[1], given) == key[2]
    if key[0] == "less":
        return node_number(terms, key[1], given) < node_number(terms, key[2], given)
    return True


def random_terms(rng, terms, unknowns, many):
    """A list of pairs of a node and the function that tells its number for given numbers."""
    found = [(node, lambda given, node=node: given[node]) for node in unknowns]
    for _ in range(many):
        number = rng.choice([0, 1, 2, 3, 7, 1 << 31, MOST, rng.getrandbits(32)])
        (left, first), (right, second) = rng.choice(found), rng.choice(found)
        if rng.random() < 0.3:
            right, second = terms.number(number), lambda given, number=number: number
        sign = rng.choice("<=+-**+")
        if rng.random() < 0.15:
            condition = terms.less(left, right)
            node = terms.choice(condition, left, right)
            function = lambda given, first=first, second=second: min(first(given), second(given))
        else:
            sign = "==" if sign == "=" else sign
            node = terms.joined(sign, left, right)
            function = lambda given, sign=sign, first=first, second=second: plain_number(
                (sign, ("name", "l"), ("name", "r")), {"l": first(given), "r": second(given)})
        found.append((node, function))
    return found
