"""Books: triples of the number of an edition, the marks of its rows, and which of them are known."""

from ledmarks.editions import same


def blank_book(tool, story, edition):
    """A book about this edition in which nothing is known."""
    many = len(story.editions[edition])
    return (edition, (tool.blank,) * many, (False,) * many)


def book_of(edition, pairs):
    """The book with these pairs of a mark and a bool."""
    return (edition, tuple([mark for mark, _ in pairs]), tuple([known for _, known in pairs]))


def arriving(tool, story, book, newer):
    """What comes of a book to each row of a newer edition: mark and known, or None where the row came in later."""
    edition, marks, known = book
    pairs = []
    for row in range(len(story.editions[newer])):
        elder = story.elder(newer, row, edition)
        if elder is None:
            pairs.append(None)
        elif edition == newer:
            # Three equal contents could still change the mark, so it is not led.
            pairs.append((marks[elder], known[elder]))
        else:
            alike = same(story.editions[edition].frame(elder), story.editions[newer].frame(row))
            pairs.append((tool.led(marks[elder], alike), known[elder] and tool.keeps(alike)))
    return pairs


def led_book(tool, story, book, newer):
    """The book led to a newer edition; one about this edition stays as it is."""
    blank = (tool.blank, False)
    return book_of(newer, [pair or blank for pair in arriving(tool, story, book, newer)])


def keeps_frame(tool, story, edition, row, other):
    """Whether the row came from the other edition, where its frame keeps with the one that it has in this edition."""
    elder = story.elder(edition, row, other)
    if elder is None:
        return False
    return tool.keeps(same(story.editions[other].frame(elder), story.editions[edition].frame(row)))
