"""The pages of some marks of one path, told in as few stretches as can be."""


def stretches(numbers, marks):
    strong = strong_by_page(numbers, marks)
    told = []
    for page in sorted(strong):
        if len(told) > 0 and goes_on(told[-1], page, strong[page]):
            told[-1] = (told[-1][0], page, strong[page])
        else:
            told.append((page, page, strong[page]))
    return told


def strong_by_page(numbers, marks):
    strong = {}
    for path, first, last, most in marks:
        for page in numbers[first:last + 1]:
            strong[page] = most or strong.get(page, False)
    return strong


def goes_on(stretch, page, is_strong):
    return stretch[1] + 1 == page and stretch[2] == is_strong
