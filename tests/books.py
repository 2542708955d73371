"""Books that are made at once."""

from longhold.book import Book


def made(terms, folk, owners, facts=()):
    book = Book(terms)
    for _ in range(folk):
        book.add_folk()
    for owner in owners:
        book.add_field(owner)
    for fact in facts:
        book.tell(fact)
    return book
