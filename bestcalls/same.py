"""What several modules share."""


def products(rows):
    """All tuples with one thing of each row, the last row's changing first."""
    told = [()]
    for row in rows:
        told = [ahead + (thing,) for ahead in told for thing in row]
    return told


def numbered(marks):
    """For each mark the number of its group, the groups numbered from 0 on by their first marks."""
    firsts = []
    for mark in marks:
        if mark not in firsts:
            firsts.append(mark)
    return [firsts.index(mark) for mark in marks]


def firsts_of(names, row):
    """The first name of each group, where row has the number of each name's group."""
    return [names[row.index(number)] for number in range(max(row) + 1)]


def cell_at(names, groups, cells, kinds):
    """The cell for kinds, where groups has for each place, and each of the names, the number of its group."""
    number = 0
    for row, kind in zip(groups, kinds):
        number = number * (max(row) + 1) + row[names.index(kind)]
    return cells[number]


def same(one, other):
    """Whether two things are the same through and through, a truth and a whole number never."""
    if one != other or isinstance(one, bool) != isinstance(other, bool):
        return False
    if isinstance(one, (list, tuple)):
        return all([same(part, mate) for part, mate in zip(one, other)])
    return True
