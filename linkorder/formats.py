"""Text formats: libraries, lines and programs as text, and the way back."""

from linkorder.errors import ParseError
from linkorder.libraries import Library, are_archives, are_ascending, is_name
from linkorder.linking import MOST_ITEMS
from linkorder.programs import is_program


def format_row(word, names):
    """Return the row of a word and the names behind it."""
    return " ".join([word, *names])


def member_rows(member):
    """Return the rows of a member."""
    name, defines, needs = member
    rows = [format_row("member", [name]), format_row("defines", defines)]
    return [*rows, format_row("needs", needs)] if needs else rows


def archive_rows(archive):
    """Return the rows of an archive and its members."""
    name, members = archive
    return [format_row("archive", [name])] + [row for member in members for row in member_rows(member)]


def format_archives(archives):
    """Return the text of the archives of a library."""
    return "\n".join([row for archive in archives for row in archive_rows(archive)])


def format_library(library):
    """Return the text of a library."""
    return format_archives(library.archives)


def format_item(item):
    """Return the text of an item of a line."""
    return item if isinstance(item, str) else "(" + " ".join(item) + ")"


def format_line(line):
    """Return the text of a line."""
    return " ".join([format_item(item) for item in line]) if line else "-"


def format_program(program):
    """Return the text of a program."""
    defines, needs = program
    return format_row("defines", defines or ("-",)) + "\n" + format_row("needs", needs or ("-",))


def rows_of_text(text, has_form):
    """Return the rows of a text of one or more rows, all of which must have a form."""
    if not isinstance(text, str):
        raise ParseError(0)
    rows = text.split("\n")
    for at, row in enumerate(rows):
        if not has_form(row):
            raise ParseError(at)
    return rows


def are_names(values):
    """Tell whether there are values and all of them are names."""
    return len(values) > 0 and all([is_name(value) for value in values])


def is_library_row(row):
    """Tell whether a row has one of the forms of a library's text."""
    word, *names = row.split(" ")
    if word in ("archive", "member"):
        return len(names) == 1 and are_names(names)
    return word in ("defines", "needs") and are_names(names)


def is_program_row(row):
    """Tell whether a row has one of the forms of a program's text."""
    word, *names = row.split(" ")
    return word in ("defines", "needs") and (names == ["-"] or are_names(names))


def names_behind(rows, word):
    """Return the names in all rows that begin with a word."""
    return tuple([name for row in rows if row[0] == word for name in row[1:] if name != "-"])


def pieces_of(rows, word):
    """Return the rows in pieces that begin with a word; what stands before the first one is left out."""
    pieces = []
    for row in rows:
        if row[0] == word:
            pieces.append([row])
        elif pieces:
            pieces[-1].append(row)
    return pieces


def read_member(rows):
    """Return the member that its rows tell of."""
    return rows[0][1], names_behind(rows, "defines"), names_behind(rows, "needs")


def read_archive(rows):
    """Return the archive that its rows tell of."""
    return rows[0][1], tuple([read_member(piece) for piece in pieces_of(rows, "member")])


def parse_library(text):
    """Return the library of a text."""
    if text == "":
        return Library(())
    rows = rows_of_text(text, is_library_row)
    pieces = pieces_of([row.split(" ") for row in rows], "archive")
    archives = tuple([read_archive(piece) for piece in pieces])
    # Rows that are left out, doubled or in another order do not come back if the archives are written again.
    if not are_archives(archives) or format_archives(archives) != text:
        raise ParseError(len(rows))
    return Library(archives)


def parse_program(text):
    """Return the program of a text."""
    rows = rows_of_text(text, is_program_row)
    split = [row.split(" ") for row in rows]
    program = (names_behind(split, "defines"), names_behind(split, "needs"))
    if not is_program(program) or format_program(program) != text:
        raise ParseError(len(rows))
    return program


def items_of_row(row):
    """Return the items of a row, groups of any names among them, or None if it does not have the form of a line."""
    if row == "-":
        return ()
    items = []
    group = []
    inside = False
    for word in row.split(" "):
        opens = word.startswith("(")
        closes = word.endswith(")")
        name = word.removeprefix("(").removesuffix(")")
        if not is_name(name) or opens and inside or closes and not opens and not inside:
            return None
        inside = inside or opens
        if inside:
            group.append(name)
        else:
            items.append(name)
        if closes:
            items.append(tuple(group))
            group = []
            inside = False
    return None if inside else tuple(items)


def is_line_row(row):
    """Tell whether a row has the form of a line."""
    return items_of_row(row) is not None


def is_item(item):
    """Tell whether what was read is a name, or a group as a line may have it."""
    return isinstance(item, str) or len(item) > 1 and are_ascending(item)


def parse_line(text):
    """Return the line of a text."""
    rows = rows_of_text(text, is_line_row)
    line = items_of_row(rows[0])
    if len(rows) > 1 or len(line) > MOST_ITEMS or not all([is_item(item) for item in line]):
        raise ParseError(len(rows))
    return line
