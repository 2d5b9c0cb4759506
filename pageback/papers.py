"""Papers: a checker of breaks and of the paper that shows that no others cost less."""

from pageback.columns import cost, fits_in


def lets_by(depths, height, prices, breaks, paper):
    if not are_breaks(depths, height, breaks) or not is_paper(depths, height, prices, paper):
        return False
    return paper[-1] == sum([cost(depths, height, prices, i, j) for i, j in zip(breaks, breaks[1:])])


def are_breaks(depths, height, breaks):
    if len(breaks) == 0 or breaks[0] != 0 or breaks[-1] != len(depths):
        return False
    # Only rising ones lie all between 0 and the number of lines: of others it can't be asked whether they fit.
    if not all([i < j for i, j in zip(breaks, breaks[1:])]):
        return False
    return all([fits_in(depths, height, i, j) for i, j in zip(breaks, breaks[1:])])


def is_paper(depths, height, prices, paper):
    if len(paper) != len(depths) + 1 or paper[0] != 0:
        return False
    return all([grows_by_no_more(depths, height, prices, paper, i) for i in range(len(depths))])


def grows_by_no_more(depths, height, prices, paper, i):
    for j in range(i + 1, len(paper)):
        if fits_in(depths, height, i, j) and paper[j] - paper[i] > cost(depths, height, prices, i, j):
            return False
    return True
