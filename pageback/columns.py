"""Columns: which rows they have, what they cost, and breaks that cost the least with a paper that shows it."""

from pageback.lines import written


def rows_in(depths, i, j):
    # As many rows are carried on as line i is deep.
    return depths[i] + j - i


def fits_in(depths, height, i, j):
    return rows_in(depths, i, j) <= height


def cost(depths, height, prices, i, j):
    total = 0
    if begins_lone(depths, i):
        total = total + prices[0]
    if j < len(depths):
        lack = height - rows_in(depths, i, j)
        total = total + prices[2] * lack * lack
        if depths[j] > depths[j - 1]:
            total = total + prices[1]
    return total


def begins_lone(depths, i):
    if i == 0 or depths[i] == 0:
        return False
    return i + 1 == len(depths) or depths[i + 1] < depths[i]


def best(depths, height, prices):
    # The least that columns up to each place cost is a paper: a further column makes the least at its end no greater
    # than the least at its beginning and its own cost.
    paper = [0]
    starts = [0]
    for j in range(1, len(depths) + 1):
        least = min([(paper[i] + cost(depths, height, prices, i, j), i) for i in starts_of(depths, height, j)])
        paper.append(least[0])
        starts.append(least[1])
    return (breaks_by(starts), paper)


def starts_of(depths, height, j):
    # The column of one line is always among them, so that every place can be come to.
    return [i for i in range(j) if i == j - 1 or fits_in(depths, height, i, j)]


def breaks_by(starts):
    breaks = [len(starts) - 1]
    while breaks[-1] > 0:
        breaks.append(starts[breaks[-1]])
    return list(reversed(breaks))


def columns(some, height, breaks):
    # The breaks keep to the height already, and a column that lacks rows is not filled up to it.
    return [column(some, i, j) for i, j in zip(breaks, breaks[1:])]


def column(some, i, j):
    return [carried_on(line) for line in lines_above(some, i)] + [written(line) for line in some[i:j]]


def lines_above(some, i):
    found = []
    depth = some[i][0]
    for line in reversed(some[:i]):
        if line[0] < depth:
            found.append(line)
            depth = line[0]
    return list(reversed(found))


def carried_on(line):
    # The first two blanks end the head as shown: no head has two of them beside one another.
    return written((line[0], line[1].partition("  ")[0] + "  (on)"))
