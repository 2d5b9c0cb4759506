"""Sees: whether they are right, and to which path each one leads in how many steps."""

from pageback.errors import Both, Nowhere, Ring, SentHere, TwoWays
from pageback.heads import rank
from pageback.marks import poured_sees


def ways(rows, sees):
    ordered = poured_sees([sees])
    has_pages = pages_by_path(rows)
    sent = goals_by_path(ordered)
    return [way_of_see(see, has_pages, sent) for see in ordered]


def pages_by_path(rows):
    has_pages = {}
    for path, found in rows:
        has_pages[path] = len(found) > 0
    return has_pages


def goals_by_path(ordered):
    # The goals stand as poured, so that the first one is the one by which a way goes.
    sent = {}
    for path, goal, also in ordered:
        if not also:
            sent.setdefault(path, []).append(goal)
    return sent


def way_of_see(see, has_pages, sent):
    path = see[0]
    goal = see[1]
    also = see[2]
    refuse_start(path, goal, also, has_pages, sent)
    come = way_of_goal(goal, sent)
    ring = ring_in(come)
    if len(ring) > 0:
        raise Ring(from_least(ring))
    end = come[-1]
    if end not in has_pages or (also and path not in has_pages) or end == path:
        raise Nowhere(path, goal)
    return (path, goal, also, end, len(come))


def refuse_start(path, goal, also, has_pages, sent):
    if goal == path:
        raise SentHere(path)
    if not also and has_pages.get(path, False):
        raise Both(path)
    if not also and len(sent[path]) > 1:
        raise TwoWays(path)


def way_of_goal(goal, sent):
    # The way stops at its end, or at the first path that it comes to a second time: that one stands in it twice.
    come = [goal]
    seen = {}
    while come[-1] in sent and come[-1] not in seen:
        seen[come[-1]] = True
        come.append(sent[come[-1]][0])
    return come


def ring_in(come):
    # The last path of a way without a ring stands in it once, and then nothing lies between.
    return come[come.index(come[-1]):-1]


def from_least(ring):
    start = ring.index(min(ring, key=rank))
    return ring[start:] + ring[:start]
