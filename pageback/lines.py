"""Lines: entries and the ways of sees, a line for each path, and how a line is written."""

from pageback.heads import path_shown, rank, shown


def lines(rows, found):
    known = stretches_by_path(rows, found)
    sent = ends_by_path(found, False)
    further = ends_by_path(found, True)
    return [
        (len(path) - 1, text_of(path, known[path], sent.get(path, []), further.get(path, [])))
        for path in sorted(known, key=rank)
    ]


def stretches_by_path(rows, found):
    known = {}
    for path, told in rows:
        known[path] = told
    for path, goal, also, end, steps in found:
        # A see's path need not be an entry, nor the paths above it: they have lines all the same.
        for many in range(1, len(path) + 1):
            known.setdefault(path[:many], [])
    return known


def ends_by_path(found, wanted):
    ends = {}
    for path, goal, also, end, steps in found:
        if also == wanted:
            own = ends.setdefault(path, [])
            # Sees of one path with unlike goals may have the same end.
            if end not in own:
                own.append(end)
    return ends


def text_of(path, told, sent, further):
    parts = [shown(path[-1])]
    if len(told) > 0:
        parts.append(", ".join([stretch_text(first, last, strong) for first, last, strong in told]))
    if len(sent) > 0:
        parts.append("see " + ends_text(sent))
    if len(further) > 0:
        parts.append("also " + ends_text(further))
    return "  ".join(parts)


def stretch_text(first, last, strong):
    text = str(first) if first == last else str(first) + "-" + str(last)
    return "*" + text + "*" if strong else text


def ends_text(ends):
    return "; ".join([path_shown(end) for end in sorted(ends, key=rank)])


def written(line):
    return "  " * line[0] + line[1]
