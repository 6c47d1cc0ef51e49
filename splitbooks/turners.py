"""How a form turns two things about."""

from splitbooks.checks import need_book
from splitbooks.errors import BadForm
from splitbooks.forms import is_form, passing_square, row_form, swallowing_row
from splitbooks.linear import across, inverse, led_all
from splitbooks.values import rows_of


def turner(book):
    """The map to what the swallowing row tells, put ahead of each x, as it tells of x joined to the thing."""
    need_book(book)
    # The passing square undoes the form of the swallowing row.
    form = row_form(book, swallowing_row(book))
    return led_all(across(form), passing_square(book), book.prime)


def form_turner(book, square):
    """The map m for which a form pairs x and y to what it pairs y, led by m, and x to."""
    need_book(book)
    if not is_form(book, square):
        raise BadForm("a form of the splitbook is wanted")
    form = rows_of(square, book.prime)
    return led_all(across(form), inverse(form, book.prime), book.prime)
