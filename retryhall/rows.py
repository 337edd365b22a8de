"""The rows of a deed: what is gone through when it is done, one row a turn."""

from retryhall.parts import Either, If, Let, Put, Reckon, Take, Throw, Try, Wait, list_long


def rows_of(deed):
    return list_rows(deed, 0) + [("lay",)]


def list_rows(parts, first):
    rows = []
    for part in parts:
        rows.extend(part_rows(part, first + len(rows)))
    return rows


def part_rows(part, first):
    if isinstance(part, If) or isinstance(part, Either) or isinstance(part, Try):
        return sided_rows(part, first)
    return plain_rows(part)


def plain_rows(part):
    if isinstance(part, Let):
        return [("let", part.slot, part.number)]
    if isinstance(part, Reckon):
        return [(part.word, part.slot, part.one, part.other)]
    if isinstance(part, Take):
        return [("take", part.slot, part.place)]
    if isinstance(part, Put):
        return [("put", part.place, part.slot)]
    if isinstance(part, Throw):
        return [("throw", part.name, part.slot)]
    if isinstance(part, Wait):
        return [("wait",)]
    # A Part itself has no rows.
    return []


def sided_rows(part, first):
    behind = first + part.long()
    second = behind - list_long(part.others)
    inner = list_rows(part.parts, first + 1)
    outer = list_rows(part.others, second)
    return [first_row(part, second)] + inner + rows_between(part, behind) + outer


def first_row(part, second):
    if isinstance(part, If):
        return ("unless", part.slot, second)
    if isinstance(part, Either):
        return ("either", second)
    return ("guard", part.name, part.slot, second)


def rows_between(part, behind):
    # An if begins no layer, so it has none to settle.
    if isinstance(part, If):
        return [("jump", behind)]
    return [("settle",), ("jump", behind)]
