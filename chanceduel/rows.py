"""Rows of whole numbers, and the unknowns that answer them.

The rows are cleared without fractions: every number on the way is a determinant
of numbers of the first rows, so each division leaves nothing over, and no number
grows beyond what such a determinant can be.
"""

from chanceduel.errors import ManyAnswers, NoAnswer
from chanceduel.parts import fraction


# Whatever is done to a line is done to the weights behind it, too: so they
# always tell how the line is made of the rows that were handed in.
def with_weights(rows):
    told = []
    for number, row in enumerate(rows):
        weights = [0] * len(rows)
        weights[number] = 1
        told.append(row + weights)
    return told


def number_of_head(lines, first, column):
    for number in range(first, len(lines)):
        if lines[number][column] != 0:
            return number
    return None


def moved_ahead(lines, first, number):
    return lines[:first] + [lines[number]] + lines[first:number] + lines[number + 1:]


def cleared_line(line, head, column, divisor):
    return [(head[column] * own - line[column] * other) // divisor for own, other in zip(line, head)]


# The columns are told beside the lines because line k is the only one left
# that has the unknown of column k of them: it alone tells this unknown.
def cleared(rows, unknowns):
    lines = with_weights(rows)
    columns = []
    divisor = 1
    for column in range(unknowns):
        rank = len(columns)
        number = number_of_head(lines, rank, column)
        if number is None:
            continue
        lines = moved_ahead(lines, rank, number)
        head = lines[rank]
        above = [cleared_line(line, head, column, divisor) for line in lines[:rank]]
        below = [cleared_line(line, head, column, divisor) for line in lines[rank + 1:]]
        lines = above + [head] + below
        divisor = head[column]
        columns.append(column)
    return (lines, columns)


def quotients(lines, columns, unknowns, source):
    told = [(0, 1)] * unknowns
    for line, column in zip(lines, columns):
        told[column] = fraction(line[source], line[column])
    return told


def still_of(lines, columns, unknowns):
    free = [column for column in range(unknowns) if column not in columns]
    # What the told unknowns bring has to make up for a free one of -1.
    still = quotients(lines, columns, unknowns, free[0])
    still[free[0]] = (-1, 1)
    return still


def answer_of(rows):
    unknowns = len(rows[0]) - 1
    found = cleared(rows, unknowns)
    lines = found[0]
    columns = found[1]
    for line in lines[len(columns):]:
        if line[unknowns] != 0:
            raise NoAnswer(line[unknowns + 1:])
    answer = quotients(lines, columns, unknowns, unknowns)
    if len(columns) < unknowns:
        raise ManyAnswers(answer, still_of(lines, columns, unknowns))
    return answer
