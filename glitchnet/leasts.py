"""The least free covers, with papers that no fewer products do, or the reasons why there is none."""

from glitchnet.products import holds_all, products_holding, unheld
from glitchnet.wishes import asked_of, greatest_allowed, why_not


def least_free(wish):
    """A free cover of the fewest products with its paper, or that there is none, with the reasons."""
    asked = asked_of(wish)
    products = greatest_allowed(wish)
    left = unheld(asked, products)
    if left:
        return "none", left[0], reasons_of(wish, left[0])
    found, paper = fewest(asked, products)
    return "least", (wish[0], found), paper


def reasons_of(wish, asked):
    """Why none of the products that hold an asked one is allowed."""
    return tuple((product, why_not(wish, product)) for product in products_holding(asked))


def fewest(asked, products):
    """The fewest products that hold all asked ones, sorted, and a paper that shows how many they are."""
    search = Search(asked, products)
    shows = ("apart", ())
    most = 0
    found, paper = search.within(asked, most)
    while found is None:
        shows = paper
        most += 1
        found, paper = search.within(asked, most)
    return tuple(sorted(found)), shows


class Search:
    """A search for few of some products that hold all asked ones."""

    def __init__(self, asked, products):
        self.holding = {one: [product for product in products if holds_all(product, one)] for one in asked}
        self.near = {one: self.near_to(one, asked) for one in asked}
        # What is left behind some products is often left behind others too.
        self.known = {}

    def near_to(self, one, asked):
        """The asked ones that one product holds together with this one, as keys."""
        return {other: True for product in self.holding[one] for other in asked if holds_all(product, other)}

    def within(self, given, most):
        """(products, None), at most so many that hold all given ones, or (None, paper), a paper that shows more."""
        key = (given, most)
        if key not in self.known:
            self.known[key] = self.looked_for(given, most)
        return self.known[key]

    def looked_for(self, given, most):
        """What within tells, found anew."""
        some = self.apart(given)
        if len(some) > most:
            return None, ("apart", some)
        if not given:
            return (), None
        one = min(given, key=lambda asked: len(self.holding[asked]))
        papers = []
        for product in self.holding[one]:
            left = tuple(other for other in given if not holds_all(product, other))
            found, paper = self.within(left, most - 1)
            if paper is None:
                return (product,) + found, None
            papers.append(paper)
        return None, ("case", one, tuple(papers))

    def apart(self, given):
        """Many of the given ones, sorted, no two of which one product holds."""
        some = []
        left = list(given)
        while left:
            one = self.loneliest(left)
            some.append(one)
            left = [other for other in left if other not in self.near[one]]
        return tuple(sorted(some))

    def loneliest(self, left):
        """The one to which the fewest of those that are left are near."""
        return min(left, key=lambda one: sum(1 for other in left if other in self.near[one]))
