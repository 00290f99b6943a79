"""Widths: the least weight to which the bags of a tree can be held, and papers that none is less."""

from math import gcd

from coverjoin.bagtrees import bag_behind, bag_tree_of, is_bag, is_bag_tree
from coverjoin.checks import are_below, are_from, check_query, is_ascending, is_from, is_pair
from coverjoin.covers import do_fit, least_sum, sum_cover, sum_of, sum_weights
from coverjoin.errors import BadBag
from coverjoin.shares import is_cover


def check_bag(query, bag):
    if not is_bag(query, bag):
        raise BadBag("not an ascending tuple of one or more attributes")


def _ones(query):
    return (1,) * len(query[1])


def weight(query, bag):
    check_query(query)
    check_bag(query, bag)
    return least_sum(query, _ones(query), bag)


def _is_less(one, other):
    """Whether one pair (numerator, denominator) is less than the other."""
    return one[0] * other[1] < other[0] * one[1]


def _with(gone, attribute):
    return tuple(sorted(gone + (attribute,)))


class Search:
    """The orders of taking attributes out, by what is gone: nothing else tells the bags behind it."""

    def __init__(self, query):
        self._query = query
        self._weights = {}
        self._best = {}

    def weight_at(self, gone, attribute):
        """The pair of the bag of an attribute and its weight."""
        bag = bag_behind(self._query, gone, attribute)
        if bag not in self._weights:
            self._weights[bag] = least_sum(self._query, _ones(self._query), bag)
        return bag, self._weights[bag]

    def best(self, gone):
        """The least that the greatest weight of bags can be when the others are taken out, and the
        attribute that is taken out first then; None for this if there is none left."""
        if len(gone) == self._query[0]:
            return (0, 1), None
        if gone not in self._best:
            self._best[gone] = self._first_best(gone)
        return self._best[gone]

    def _first_best(self, gone):
        best = None
        for attribute in range(self._query[0]):
            if attribute not in gone:
                greatest = self.weight_at(gone, attribute)[1]
                behind = self.best(_with(gone, attribute))[0]
                if _is_less(greatest, behind):
                    greatest = behind
                if best is None or _is_less(greatest, best[0]):
                    best = (greatest, attribute)
        return best

    def best_order(self):
        order = ()
        while len(order) < self._query[0]:
            order = order + (self.best(tuple(sorted(order)))[1],)
        return order

    def family(self, least):
        """The pair of all tuples that can be gone, when only bags of less than this weight are taken out,
        and of the bags of the attributes that cannot be taken out so behind them, ascending."""
        family = {(): True}
        dear = {}
        waiting = [()]
        while len(waiting) > 0:
            gone = waiting.pop()
            for attribute in range(self._query[0]):
                if attribute not in gone:
                    bag, found = self.weight_at(gone, attribute)
                    more = _with(gone, attribute)
                    if not _is_less(found, least):
                        dear[bag] = True
                    elif more not in family:
                        family[more] = True
                        waiting.append(more)
        return tuple(sorted(family)), sorted(dear)


def width(query):
    check_query(query)
    return Search(query).best(())[0]


def width_paper(query):
    check_query(query)
    search = Search(query)
    least = search.best(())[0]
    tree = bag_tree_of(query, search.best_order())
    covers = tuple([sum_cover(query, _ones(query), bag) for bag in tree[0]])
    family, dear = search.family(least)
    return least, tree, covers, family, tuple([(bag,) + sum_weights(query, _ones(query), bag) for bag in dear])


def _is_width(value):
    return is_pair(value) and is_from(value[0], 1) and is_from(value[1], 1) and gcd(value[0], value[1]) == 1


def _are_covers(query, bags, least, value):
    """Whether any value has a cover of each bag, with a total of at most this."""
    if not isinstance(value, tuple) or len(value) != len(bags):
        return False
    for k in range(len(bags)):
        if not is_cover(query, value[k], bags[k]) or _is_less(least, sum_of(value[k], _ones(query))):
            return False
    return True


def _is_family(query, value):
    if not isinstance(value, tuple) or not all(are_below(gone, query[0]) for gone in value):
        return False
    return is_ascending(value) and () in value and tuple(range(query[0])) not in value


def _is_dear(query, least, value):
    """Whether any value is a bag with weights that show that its weight is not less than this."""
    if not isinstance(value, tuple) or len(value) != 3:
        return False
    bag, weights, denominator = value
    if not is_bag(query, bag) or not are_from(weights, query[0], 0) or not is_from(denominator, 1):
        return False
    held = [[attribute for attribute in atom if attribute in bag] for atom in query[1]]
    if not do_fit(held, _ones(query), (weights, denominator)):
        return False
    return not _is_less((sum([weights[attribute] for attribute in bag]), denominator), least)


def is_width_paper(query, value):
    check_query(query)
    if not isinstance(value, tuple) or len(value) != 5:
        return False
    least, tree, covers, family, dear = value
    if not _is_width(least) or not is_bag_tree(query, tree) or not _are_covers(query, tree[0], least, covers):
        return False
    if not _is_family(query, family) or not isinstance(dear, tuple):
        return False
    if not all(_is_dear(query, least, item) for item in dear):
        return False
    bags = [item[0] for item in dear]
    for gone in family:
        for attribute in range(query[0]):
            if attribute not in gone and _with(gone, attribute) not in family:
                if bag_behind(query, gone, attribute) not in bags:
                    return False
    return True
