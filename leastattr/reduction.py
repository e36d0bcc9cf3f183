"""Rows of numbers modulo 2 ** width, brought to steps and to invariant factors.

All rows here are lists of numbers from 0 to 2 ** width - 1, of one length.
"""


def exponent_of(number):
    """The exponent of the greatest power of 2 that divides a number other than 0."""
    return (number & -number).bit_length() - 1


def odd_inverse(odd, width):
    """The number whose product with an odd one is 1 modulo 2 ** width."""
    modulus = 1 << width
    # The square of an odd number is 1 modulo 8, so three low bits are right, and each round
    # doubles how many are: 3, 6, 12, 24, 48, 96.
    inverse = odd
    for _ in range(5):
        inverse = inverse * (2 - odd * inverse) % modulus
    return inverse


def unit_row(size, place):
    """The row with 1 at a place and 0 elsewhere."""
    row = [0] * size
    row[place] = 1
    return row


def scaled(row, factor, width):
    """A row times a factor."""
    modulus = 1 << width
    return [factor * number % modulus for number in row]


def lessened(row, factor, other, width):
    """A row less another one times a factor."""
    if factor == 0:
        return row
    modulus = 1 << width
    return [(number - factor * taken) % modulus for number, taken in zip(row, other)]


def with_power(row, column, width):
    """The multiple of a row by an odd number that has a power of 2 in a column."""
    odd = row[column] >> exponent_of(row[column])
    return scaled(row, odd_inverse(odd, width), width)


def without_zeros(rows):
    """The rows that are not 0 everywhere."""
    return [row for row in rows if any(row)]


def pivot_column(row):
    """The first column in which a row is not 0."""
    return [column for column, number in enumerate(row) if number != 0][0]


def least_row(pool, column):
    """The index of a row whose number in a column has the least exponent, None if all are 0 there."""
    indexes = [index for index, row in enumerate(pool) if row[column] != 0]
    return min(indexes, key=lambda at: exponent_of(pool[at][column]), default=None)


def echelon_rows(rows, width):
    """The rows of the echelon of the module of some rows."""
    pool = without_zeros(rows)
    found = []
    column = 0
    while pool:
        index = least_row(pool, column)
        if index is not None:
            row = with_power(pool[index], column, width)
            found.append(row)
            pool = cleared(pool[:index] + pool[index + 1:], row, column, width)
        column += 1
    return tidied(found, width)


def cleared(pool, row, column, width):
    """What generates all that is 0 in a column and the columns before it.

    row has the least power of 2 there, the rows of the pool are 0 before it.
    """
    exponent = exponent_of(row[column])
    rest = [lessened(other, other[column] >> exponent, row, width) for other in pool]
    # A multiple of the row itself may be 0 in this column and not behind it.
    rest.append(scaled(row, 1 << (width - exponent), width))
    return without_zeros(rest)


def tidied(steps, width):
    """Rows in steps, each lessened in the columns of the later pivots."""
    done = []
    for row in reversed(steps):
        for later in done:
            column = pivot_column(later)
            row = lessened(row, row[column] // later[column], later, width)
        done.insert(0, row)
    return done


def remainder(row, steps, width):
    """What an echelon leaves of a row: 0 everywhere if the row is an element of its module."""
    for step in steps:
        column = pivot_column(step)
        row = lessened(row, row[column] // step[column], step, width)
    return row


def zero_ahead(rows, width):
    """Rows that generate what of the module of some rows is 0 in the first column."""
    pool = without_zeros(rows)
    index = least_row(pool, 0)
    if index is None:
        return pool
    row = with_power(pool[index], 0, width)
    return cleared(pool[:index] + pool[index + 1:], row, 0, width)


def tails(rows, lead, width):
    """The echelon of what the elements that are 0 in the first columns have behind these."""
    return [row[lead:] for row in echelon_rows(rows, width) if not any(row[:lead])]


def invariants(rows, width):
    """A list of tuples (index, exponent): the invariant factors, and rows that have the same module.

    The exponents ascend; there are as many as the module needs generators.
    """
    pool = [(index, row) for index, row in enumerate(rows) if any(row)]
    found = []
    while pool:
        index, row = min(pool, key=lambda pair: least_exponent(pair[1]))
        exponent = least_exponent(row)
        found.append((index, exponent))
        column = [place for place, number in enumerate(row) if number != 0 and exponent_of(number) == exponent][0]
        row = with_power(row, column, width)
        # No number of the pool has a lower exponent, so a multiple of the row makes each 0 in this
        # column, and multiples of the column could make the rest of the row 0.
        rest = [(at, lessened(other, other[column] >> exponent, row, width)) for at, other in pool if at != index]
        pool = [(at, other) for at, other in rest if any(other)]
    return found


def least_exponent(row):
    """The least exponent of the numbers of a row that is not 0 everywhere."""
    return min([exponent_of(number) for number in row if number != 0])
