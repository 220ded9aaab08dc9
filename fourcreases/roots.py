"""How many real numbers make a polynomial 0, by the changes of sign along Sturm's row."""
from fourcreases.factors import shared_factor
from fourcreases.polys import exact_quotient, left_over, scaled, slim_poly, slope, whole_value
from fourcreases.ratios import NOUGHT, opposite, times


def simple_part(poly):
    """The polynomial that is 0 where a polynomial is, but each time only once."""
    return exact_quotient(slim_poly(poly), shared_factor([poly, slope(poly)]))


def sturm_row(poly):
    """Sturm's row of a polynomial that is 0 nowhere more than once."""
    row = [poly, slope(poly)]
    while row[-1]:
        row.append(slim_poly(scaled(left_over(row[-2], row[-1]), -1)))
    return row[:-1]


def changes_at(row, s):
    """The number of changes of sign along a row of polynomials at a fraction, zeros left out."""
    signs = [value > 0 for value in [whole_value(poly, s) for poly in row] if value != 0]
    return len([at for at in range(1, len(signs)) if signs[at] != signs[at - 1]])


def from_nought(one):
    """A fraction, or 0 if it is below."""
    return one if one[0] > 0 else NOUGHT


def count_by_squares(poly, low, high):
    """The number of the reals above low and at most high at whose squares a polynomial is 0 that is not 0 at 0."""
    row = sturm_row(simple_part(poly))

    def upto(s):
        """The number of those from 0 to s, and whether s is one of them."""
        square = times(s, s)
        return changes_at(row, NOUGHT) - changes_at(row, square), int(whole_value(row[0], square) == 0)

    above = upto(from_nought(high))[0] - upto(from_nought(low))[0]
    # Below 0 the end high counts and low does not, so the other way round for the squares.
    (near, at_near), (far, at_far) = upto(from_nought(opposite(high))), upto(from_nought(opposite(low)))
    return above + (far - at_far) - (near - at_near)
