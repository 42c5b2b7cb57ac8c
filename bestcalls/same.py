"""What several modules share."""


def products(rows):
    """All tuples with one thing of each row, the last row's changing first."""
    told = [()]
    for row in rows:
        told = [ahead + (thing,) for ahead in told for thing in row]
    return told


def numbered(marks):
    """For each mark the number of its group, the groups numbered from 0 on by their first marks."""
    firsts = []
    for mark in marks:
        if mark not in firsts:
            firsts.append(mark)
    return [firsts.index(mark) for mark in marks]


def firsts_of(names, row):
    """The first name of each group, where row has the number of each name's group."""
    return [names[row.index(number)] for number in range(max(row) + 1)]
