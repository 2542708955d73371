"""A book as a text, there and back."""

from longhold.book import Book
from longhold.errors import BadLine, LandError
from longhold.facts import fact_of, line, number_of

MANY_TERMS = 5


def written(book):
    """The text of a book."""
    rows = [" ".join(["terms"] + [str(term) for term in book.terms()]), f"folk {book.folk()}"]
    rows.extend([f"field {owner}" for owner in book.fields()])
    rows.extend([line(fact) for fact in book.facts()])
    return "\n".join(rows)


def read_book(text):
    """The book that is written so."""
    try:
        book = _book_of(text.split("\n"))
    except LandError:
        raise BadLine("no book is written so") from None
    # Rows that stand out of order make a book too, but another text is that book's.
    if written(book) != text:
        raise BadLine("the book is written otherwise")
    return book


def _book_of(rows):
    if len(rows) < 2:
        raise BadLine("rows are missing")
    book = Book(tuple(_numbers(rows[0], "terms", MANY_TERMS)))
    for _ in range(_numbers(rows[1], "folk", 1)[0]):
        book.add_folk()
    for row in rows[2:]:
        if row.startswith("field "):
            book.add_field(_numbers(row, "field", 1)[0])
        else:
            book.tell(fact_of(row))
    return book


def _numbers(row, word, many):
    """The numbers of a row that has that word and so many numbers."""
    first, *figures = row.split(" ")
    if first != word or len(figures) != many:
        raise BadLine(f"no row of {word} is written so")
    return [number_of(part) for part in figures]
