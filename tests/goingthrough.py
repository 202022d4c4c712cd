"""All standings of small houses that come, gone through one by one: what the rules of the document are held against."""

from tests import retold

STILL = ("begin", "enter", "leave")


class TooWide(Exception):
    """There are more standings than a test wants to go through."""


class Through:
    """All standings of a house that come, numbered, and the steps from one to another."""

    def __init__(self, house, most=20000):
        self.house = house
        self.standings = [retold.start(house)]
        self.numbers = {self.standings[0]: 0}
        self.steps = []
        self.barred = []
        hands = range(len(house[1]))
        for number, standing in enumerate(self.standings):
            moves, barred = [], []
            for hand in hands:
                word, spot, tokens = retold.move(house, standing, hand)
                if word is None:
                    barred.append(hand)
                    continue
                behind = (standing[0][:hand] + (spot,) + standing[0][hand + 1:], tokens)
                if behind not in self.numbers:
                    self.numbers[behind] = len(self.standings)
                    self.standings.append(behind)
                moves.append((hand, word, self.numbers[behind]))
            if len(self.standings) > most:
                raise TooWide
            self.steps.append(moves)
            self.barred.append(barred)

    def meetings(self):
        """The choices that come together: of the standings in which all go or rest."""
        told = set()
        for spots, _ in self.standings:
            if all(word in ("go", "rest") for _, word, _ in spots):
                told.add(tuple(None if word == "rest" else place for place, word, _ in spots))
        return told

    def knots(self, numbers, lets):
        """The greatest sets of these standings that come of each other by steps that lets lets by; single ones, too."""
        numbers = set(numbers)
        after = {k: [b for hand, word, b in self.steps[k] if b in numbers and lets(hand, word)] for k in numbers}
        low, on, stack, knots, count = {}, set(), [], [], {}
        for root in numbers:
            if root in count:
                continue
            work = [(root, iter(after[root]))]
            count[root] = low[root] = len(count)
            stack.append(root)
            on.add(root)
            while work:
                at, left = work[-1]
                for b in left:
                    if b not in count:
                        count[b] = low[b] = len(count)
                        stack.append(b)
                        on.add(b)
                        work.append((b, iter(after[b])))
                        break
                    if b in on:
                        low[at] = min(low[at], count[b])
                else:
                    work.pop()
                    if work:
                        low[work[-1][0]] = min(low[work[-1][0]], low[at])
                    if low[at] == count[at]:
                        knot = set()
                        while at not in knot:
                            knot.add(stack.pop())
                        on -= knot
                        knots.append(knot)
        return knots

    def movers_in(self, knot, lets):
        """The hands that make a step from one standing of the knot to one."""
        return {hand for k in knot for hand, word, b in self.steps[k] if b in knot and lets(hand, word)}

    def barred_in(self, knot):
        return {hand for k in knot for hand in self.barred[k]}

    def resting_in(self, knot):
        return {hand for k in knot for hand, spot in enumerate(self.standings[k][0]) if spot[1] == "rest"}

    def can_get_stuck(self):
        """Whether there is a stall."""
        def lets(hand, word):
            return word not in STILL

        numbers = [k for k, (spots, _) in enumerate(self.standings) if any(spot[1] != "rest" for spot in spots)]
        for knot in self.knots(numbers, lets):
            held_up = self.movers_in(knot, lets) | self.barred_in(knot) | self.resting_in(knot)
            if len(held_up) == len(self.house[1]):
                return True
        return False

    def can_be_kept(self, hand, place):
        """Whether there is a keeping of hand at place."""
        def lets(hand, word):
            return True

        def waits(spots):
            return spots[hand][0] == place and spots[hand][1] != "rest"

        numbers = [k for k, (spots, _) in enumerate(self.standings) if waits(spots)]
        for knot in self.knots(numbers, lets):
            movers = self.movers_in(knot, lets)
            if movers and len(movers | self.barred_in(knot) | self.resting_in(knot)) == len(self.house[1]):
                return True
        return False

    def longest_home(self):
        """For each standing the most steps that can be made if nobody begins; None where there is no most."""
        left = [sum(word != "begin" for _, word, _ in moves) for moves in self.steps]
        ahead = [[] for _ in self.standings]
        for k, moves in enumerate(self.steps):
            for _, word, b in moves:
                if word != "begin":
                    ahead[b].append(k)
        told = [None] * len(left)
        free = [k for k, many in enumerate(left) if not many]
        for k in free:
            told[k] = max([told[b] + 1 for _, word, b in self.steps[k] if word != "begin"], default=0)
            for a in ahead[k]:
                left[a] -= 1
                if not left[a]:
                    free.append(a)
        return told
