"""The search for the best plan of a case, with a paper (points 32, 33, 37 and 47).

The cases that are still to be looked at wait in a queue, the one with the greatest bound ahead. A case
that is taken from it is looked at first: it may have a breach, or better prices may show that it holds
nothing better than the plan found so far. If neither, it is divided over one open thing.
"""

from heapq import heappop, heappush
from math import gcd

from downpass.fillings import filled
from downpass.picks import pick
from downpass.rules import first_breach
from downpass.tariffs import SCALE, Tariff

MOST_EFFORT = 5000
# How many rounds the prices of the first case and of each later one are bettered, and how many
# choices of each thing are tried in turn where one of these cases is filled up to a plan.
FIRST_ROUNDS = 30
ROUNDS = 4
FIRST_WISHES = 60
WISHES = 3
# How many cases get better prices, so that a search over wide choices comes to an end in time.
PATIENCE = 100
MOST_PATIENCE = 3000


def hunt(board, least, case, effort):
    """The triple (plan, upper, paper) of a search of a case; all plans are worth more than least."""
    breach = first_breach(board.world, case)
    if breach is not None:
        return (None, least, ("breach", breach))
    return Hunt(board, least, case).run(min(effort, MOST_EFFORT))


class Node:
    """A case of a hunt: the places of its entries, and a paper that closes it for a number, the need."""

    def __init__(self, places, need, prices, paper):
        self.places = places
        self.need = need
        self.prices = prices
        self.paper = paper
        self.is_seen = False
        # The thing over which the case is divided, and a node for each way to decide this thing, or
        # None where the paper of this node is enough.
        self.thing = None
        self.parts = []


class Hunt:
    """A search of a case without a breach."""

    def __init__(self, board, least, case):
        self.board = board
        self.world = board.world
        self.least = least
        # The best plan so far and what it is worth.
        self.plan = None
        self.worth = least
        self.nodes = []
        self.queue = []
        self.patience = 1
        self.root = Node(board.places_of(case), least, (), None)
        self.look_at(self.root, FIRST_ROUNDS)
        self.fill(self.root, FIRST_WISHES)

    def run(self, effort):
        """Search with so many choices, and return the triple."""
        self.patience = min(PATIENCE + 5 * effort, MOST_PATIENCE)
        while self.shown() > self.worth:
            node = self.nodes[-self.queue[0][1]]
            if node.is_seen and effort == 0:
                break
            heappop(self.queue)
            if node.is_seen:
                effort -= 1
                self.divide(node)
            else:
                self.look_at(node, ROUNDS)
        return (self.plan, self.shown(), self.paper_of(self.root))

    def shown(self):
        """The least number that is shown so far."""
        if len(self.queue) == 0:
            return self.worth
        return max(self.worth, -self.queue[0][0])

    def put(self, node):
        """Let a node wait in the queue, unless its case holds nothing better than the plan."""
        if node.need > self.worth:
            self.nodes.append(node)
            # Of those with one need, the newest one is ahead.
            heappush(self.queue, (-node.need, 1 - len(self.nodes)))

    def look_at(self, node, rounds):
        """Look for a breach of the case of a node, and for better prices."""
        node.is_seen = True
        breach = first_breach(self.world, self.board.case_of(node.places))
        if breach is not None:
            node.need = self.least
            node.paper = ("breach", breach)
            return
        if not self.board.is_open(node.places):
            # Without prices the bound of such a case is just what its plan is worth.
            node.prices = ()
            self.reckon(node, 0)
        elif self.patience > 0:
            self.patience -= 1
            self.reckon(node, rounds)
        self.put(node)

    def reckon(self, node, rounds):
        """Better the prices of a node, and take over what they choose if this is a plan."""
        tariff = Tariff(self.board, node.places, node.prices)
        tariff.improve(rounds)
        node.need = self.need_of(tariff.bound())
        node.prices = tariff.pairs()
        node.paper = paper_of_prices(node.prices)
        plan = self.board.case_of(tariff.chosen())
        if first_breach(self.world, plan) is None:
            self.offer(plan)

    def need_of(self, net):
        """The least number for which a paper with this bound closes its case."""
        return max(self.least, -(-net // SCALE))

    def fill(self, node, many):
        """Look for a plan of the case of a node, with so many of the choices of each thing tried in turn."""
        tariff = Tariff(self.board, node.places, node.prices)
        plan = filled(self.board, self.board.case_of(node.places), tariff.wishes(many))
        if plan is not None:
            self.offer(plan)

    def offer(self, plan):
        """Take over a plan that keeps the rules if it is better than the one so far."""
        worth = self.board.worth_of(self.board.places_of(plan))
        if worth > self.worth:
            self.plan = plan
            self.worth = worth

    def divide(self, node):
        """Divide the case of a node over an open thing."""
        if self.patience > 0:
            self.fill(node, WISHES)
        tariff = Tariff(self.board, node.places, node.prices)
        thing = pick(self.board, node.places, tariff.chosen())
        rest = tariff.bound() - tariff.top(thing)
        node.thing = thing
        for place, net in enumerate(tariff.nets[thing]):
            part = None
            need = self.need_of(rest + net)
            if need > self.worth:
                places = node.places[:thing] + (place,) + node.places[thing + 1:]
                part = Node(places, need, node.prices, node.paper)
                self.put(part)
            node.parts.append(part)

    def paper_of(self, node):
        """The paper of a node that closes its case for what is shown so far."""
        if node.thing is None or node.need <= self.shown():
            return node.paper
        papers = tuple([node.paper if part is None else self.paper_of(part) for part in node.parts])
        many = self.board.measure.many_made
        if node.thing < many:
            return ("recording", node.thing, papers)
        return ("pass", node.thing - many, papers)


def paper_of_prices(prices):
    """The paper of a bound under these prices, with numbers as small as can be."""
    shared = SCALE
    for _, price in prices:
        shared = gcd(shared, price)
    return ("bound", SCALE // shared, tuple([(row, price // shared) for row, price in prices]))
