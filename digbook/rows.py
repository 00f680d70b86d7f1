"""Rows of ever earlier deposits, as few as do, and the widest set of which none is later than another one."""

from digbook.chains import earlier_ones
from digbook.deposits import deposit_names
from digbook.ways import keys_by_value, most_pairs, one_of_each_pair


# Each deposit with an earlier one right behind it saves a row, so as many as can are given one.
def fewest_rows(ground):
    later_ahead = most_pairs(earlier_ones(ground))
    earlier_behind = keys_by_value(later_ahead)
    return [row_from(name, earlier_behind) for name in deposit_names(ground) if name not in later_ahead]


def row_from(first, earlier_behind):
    row = [first]
    while row[-1] in earlier_behind:
        row.append(earlier_behind[row[-1]])
    return row


# Without one deposit of each pair none is later than another one, and there are as
# many pairs as deposits beyond the rows' number.
def widest(ground):
    reach = earlier_ones(ground)
    left_out = one_of_each_pair(reach, most_pairs(reach))
    return [name for name in deposit_names(ground) if name not in left_out]
