"""Sessions: a workspace that is run by commands, and what became of each command."""

from linkorder.chains import words
from linkorder.counting import line_count
from linkorder.errors import CommandError, ParseError
from linkorder.formats import format_library, format_line, format_program, parse_library, parse_line
from linkorder.libraries import is_name
from linkorder.repairs import grouped_line
from linkorder.serving import failing_program, serves
from linkorder.shortest import shortest_line
from linkorder.workspace import Workspace

LARGEST_NUMBER = 60


def read_nothing(parts):
    """Return no values if there are no parts behind the first word, else None."""
    return None if parts else ()


def read_line(parts):
    """Return the line that the parts behind the first word are the text of, else None."""
    try:
        return (parse_line(" ".join(parts)),)
    except ParseError:
        return None


def read_number(parts):
    """Return the number that is the only part behind the first word, else None."""
    found = [number for number in range(LARGEST_NUMBER + 1) if parts == [str(number)]]
    return tuple(found) if found else None


def read_name(parts):
    """Return the name that is the only part behind the first word, else None."""
    return tuple(parts) if len(parts) == 1 and is_name(parts[0]) else None


def read_two_names(parts):
    """Return the names that are the two parts behind the first word, else None."""
    return tuple(parts) if len(parts) == 2 and is_name(parts[0]) and is_name(parts[1]) else None


def in_one_row(text):
    """Return a text with its rows in one, or what stands for the empty text."""
    return text.replace("\n", " / ") if text else "none"


def answer_shortest(desk):
    """Return the shortest line."""
    return format_line(shortest_line(desk.library()))


def answer_groups(desk):
    """Return the grouped line."""
    return format_line(grouped_line(desk.library()))


def answer_serves(desk, line):
    """Return whether a line serves."""
    return "yes" if serves(desk.library(), line) else "no"


def answer_fails(desk, line):
    """Return the program that a line fails to link."""
    program = failing_program(desk.library(), line)
    return "none" if program is None else in_one_row(format_program(program))


def answer_count(desk, length):
    """Return the number of lines of a length that serve."""
    return str(line_count(desk.library(), length))


def answer_use(desk, line):
    """Set the line."""
    desk.set_line(line)
    return "ok"


def answer_line(desk):
    """Return the line."""
    return format_line(desk.line())


def answer_repair(desk):
    """Repair the line."""
    return str(desk.repair())


def answer_prune(desk):
    """Prune the line."""
    return str(desk.prune())


def answer_need(desk, name, symbol):
    """Let a member need a symbol."""
    desk.add_need(name, symbol)
    return "ok"


def answer_unneed(desk, name, symbol):
    """Let a member need a symbol no more."""
    desk.remove_need(name, symbol)
    return "ok"


def answer_drop(desk, name):
    """Remove a member."""
    desk.remove_member(name)
    return "ok"


def answer_undo(desk):
    """Undo the last edit."""
    desk.undo()
    return "ok"


def answer_words(desk):
    """Return the essential words."""
    return " ".join(["-".join(letters) for letters in words(desk.library())]) or "none"


def answer_text(desk):
    """Return the library's text."""
    return in_one_row(format_library(desk.library()))


READERS = {
    "shortest": read_nothing,
    "groups": read_nothing,
    "serves": read_line,
    "fails": read_line,
    "count": read_number,
    "use": read_line,
    "line": read_nothing,
    "repair": read_nothing,
    "prune": read_nothing,
    "need": read_two_names,
    "unneed": read_two_names,
    "drop": read_name,
    "undo": read_nothing,
    "words": read_nothing,
    "text": read_nothing,
}
ANSWERS = {
    "shortest": answer_shortest,
    "groups": answer_groups,
    "serves": answer_serves,
    "fails": answer_fails,
    "count": answer_count,
    "use": answer_use,
    "line": answer_line,
    "repair": answer_repair,
    "prune": answer_prune,
    "need": answer_need,
    "unneed": answer_unneed,
    "drop": answer_drop,
    "undo": answer_undo,
    "words": answer_words,
    "text": answer_text,
}


class Session:
    """A workspace and the commands that it was given."""

    def __init__(self, text):
        self.desk = Workspace(parse_library(text).archives)
        self.told = []

    def run(self, command):
        """Carry out a command and return its answer."""
        if not isinstance(command, str):
            raise CommandError(command)
        # The command has failed until its answer is there, whatever error ends it.
        self.told.append((command, False))
        answer = self.answer(command)
        self.told[-1] = (command, True)
        return answer

    def answer(self, command):
        """Return the answer to a string, if it is a command by its form."""
        word, *parts = command.split(" ")
        if word not in READERS:
            raise CommandError(command)
        reader = READERS[word]
        values = reader(parts)
        if values is None:
            raise CommandError(command)
        action = ANSWERS[word]
        return action(self.desk, *values)

    def history(self):
        """Return each string that was passed to run, and whether it raised no error."""
        return tuple(self.told)
