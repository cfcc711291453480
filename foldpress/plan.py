"""Plans: how many sheets of each scheme of a press make a book of so many pages."""

from foldpress.book import Book
from foldpress.errors import BadBook
from foldpress.scheme import Scheme, cells_of
from foldpress.sheet import MOST_PAGE
from foldpress.words import is_among

MOST_SCHEMES = 8


def plan_for(press, pages):
    """The plan of a press for so many pages; of anything."""
    cells = _cells_of_press(press, pages)
    leaves = _leaves_for(pages)
    sheets = _fewest_sheets(cells, leaves)
    table = _totals_table(cells, sheets)
    total = leaves
    while not _has(table[-1][sheets], total):
        total += 1
    return _least_plan(cells, table, sheets, total)


def book_for(press, pages):
    """The book that a press makes of so many pages by its plan; of anything."""
    plan = plan_for(press, pages)
    parts = []
    # Those of as many cells stay in the order of the press.
    for many, scheme in sorted(list(zip(plan, press)), key=lambda pair: -cells_of(pair[1])):
        parts.extend([(scheme, "behind")] * many)
    return Book(pages, parts)


def gaps_shown(press, pages):
    """The numbers of pages that the plan leaves blank, each with the nearest places of as many sheets; of anything."""
    cells = _cells_of_press(press, pages)
    plan = plan_for(press, pages)
    places = 2 * sum([many * size for many, size in zip(plan, cells)])
    totals = _totals_table(cells, sum(plan))[-1][sum(plan)]
    # As many sheets come to nothing from the pages on that is less than the plan's places, or it would be no plan.
    less = totals & ((1 << _leaves_for(pages)) - 1)
    below = 2 * (less.bit_length() - 1) if less else None
    return [(number, below) for number in range(pages, places)]


def _cells_of_press(press, pages):
    """How many cells each scheme of a press has; refuses what is no press, or no count of pages."""
    if not _is_press(press) or not is_among(pages, 1, MOST_PAGE):
        raise BadBook("there is no such press, or no such count of pages")
    return [cells_of(scheme) for scheme in press]


def _is_press(thing):
    """Whether the thing is a press."""
    if not isinstance(thing, list) or not 1 <= len(thing) <= MOST_SCHEMES:
        return False
    return all([isinstance(part, Scheme) for part in thing])


def _leaves_for(pages):
    """How many leaves so many pages need."""
    return (pages + 1) // 2


def _fewest_sheets(cells, leaves):
    """How few sheets come to so many leaves."""
    most = max(cells)
    return (leaves + most - 1) // most


def _totals_table(cells, sheets):
    """For so many of the first schemes, and for so many sheets of these: to which counts of leaves they can come.

    The counts are the bits of one number, so that 2,000 pages are no more than some thousand steps.
    """
    table = [[1] + [0] * sheets]
    for size in cells:
        totals = [1]
        for without in table[-1][1:]:
            totals.append(without | (totals[-1] << size))
        table.append(totals)
    return table


def _has(totals, total):
    """Whether that count is among those that are the bits of a number."""
    return (totals >> total) & 1 == 1


def _least_plan(cells, table, sheets, total):
    """The numbers of so many sheets that come to a total: the last one as little as can be, then the one ahead."""
    plan = []
    for at in range(len(cells) - 1, -1, -1):
        many = 0
        while not _has(table[at][sheets - many], total - many * cells[at]):
            many += 1
        plan.append(many)
        sheets -= many
        total -= many * cells[at]
    return plan[::-1]
