"""Standings: rows that the books of the plain store can be, and what leads to them."""

from neverunsaid.basics import is_list
from neverunsaid.books import is_row
from neverunsaid.errors import Faulty, InvalidLater, InvalidRows
from neverunsaid.faults import fault_in, is_fault
from neverunsaid.plain import Plain


def is_rows(tree, value):
    """Whether any value has a list of lines of the tree for each house, no two of one list with one key."""
    if not is_list(value) or len(value) != tree.houses:
        return False
    return all([is_row(tree, row) for row in value])


def standing_fault(tree, rows):
    """Any fault of the rows, or None if they are a standing."""
    if not is_rows(tree, rows):
        raise InvalidRows(rows)
    return fault_in(tree, rows)


def is_standing_fault(tree, rows, value):
    """Whether any value is a fault of the rows."""
    if not is_rows(tree, rows):
        raise InvalidRows(rows)
    return is_fault(tree, rows, value)


def is_standing(tree, value):
    """Whether any value is rows without a fault."""
    return is_rows(tree, value) and fault_in(tree, value) is None


def check_standing(tree, rows):
    """Raise an error unless the rows are a standing."""
    fault = standing_fault(tree, rows)
    if fault is not None:
        raise Faulty(fault)


def script_to(tree, rows):
    """Any script of the plain store behind which the books are just these rows."""
    check_standing(tree, rows)
    plain = Plain(tree)
    many = sum([len(row) for row in rows])
    # In a standing some house can always take its next line, so each time round at least one deed is done.
    while len(plain.script) < many:
        for house, row in enumerate(rows):
            _bring_on(plain, house, row)
    return list(plain.script)


def _bring_on(plain, house, row):
    """Do all deeds at a house by which its book goes on to its row, up to one that cannot be done yet."""
    for line in row[len(plain.row(house)):]:
        sender = plain.tree.step(house, line[0])
        if sender == house:
            plain.make(house, line[2], line[3])
        # Without a fault the next line under way can only be this one.
        elif len(plain.under_way(sender, house)) > 0:
            plain.hand(sender, house)
        else:
            break


def goes_on(tree, rows, later):
    """Whether deeds of the plain store lead from a standing to later rows."""
    check_standing(tree, rows)
    if not is_rows(tree, later):
        raise InvalidLater(later)
    if fault_in(tree, later) is not None:
        return False
    return all([list(behind[:len(row)]) == list(row) for row, behind in zip(rows, later)])
