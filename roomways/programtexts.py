"""The texts of programs."""

from roomways.bounds import MAX_DEEP, MAX_ROOMS
from roomways.errors import BadText
from roomways.programs import program_error


def part_text(part):
    """Return the text of a part."""
    if part[0] == "again":
        return "again (" + program_text(part[1]) + ")"
    if part[0] == "either":
        return "either " + " or ".join(["(" + program_text(program) + ")" for program in part[1]])
    text = "in " + str(part[1])
    if part[2]:
        text = text + " (" + program_text(part[2]) + ")"
    return text


def program_text(program):
    """Return the text of program."""
    return "; ".join([part_text(part) for part in program])


class Reader:
    """Reads the text of a program from its beginning to its end."""

    def __init__(self, text):
        self.text = text
        self.at = 0

    def passes(self, sign):
        """Tell whether the text goes on with sign, and go behind it if it does."""
        if not self.text.startswith(sign, self.at):
            return False
        self.at += len(sign)
        return True

    def need(self, sign):
        """Go behind sign, with which the text has to go on."""
        if not self.passes(sign):
            raise BadText(0)

    def read_room(self):
        """Read a room."""
        for room in range(MAX_ROOMS):
            if self.passes(str(room)):
                return room
        raise BadText(0)

    def read_bracketed(self, deep):
        """Read a program within brackets, the parts of which are within so many others."""
        self.need("(")
        if self.passes(")"):
            return ()
        program = self.read_parts(deep)
        self.need(")")
        return program

    def read_part(self, deep):
        """Read a part that is within so many others."""
        # Texts may be nested deeper than programs are.
        if deep > MAX_DEEP:
            raise BadText(0)
        if self.passes("in "):
            room = self.read_room()
            return ("in", room, self.read_bracketed(deep + 1) if self.passes(" ") else ())
        if self.passes("again "):
            return ("again", self.read_bracketed(deep + 1))
        self.need("either ")
        programs = [self.read_bracketed(deep + 1)]
        while self.passes(" or "):
            programs.append(self.read_bracketed(deep + 1))
        return ("either", tuple(programs))

    def read_parts(self, deep):
        """Read a program that is not empty, the parts of which are within so many others."""
        parts = [self.read_part(deep)]
        while self.passes("; "):
            parts.append(self.read_part(deep))
        return tuple(parts)


def read_program(value):
    """Return the program of which value is the text."""
    if not isinstance(value, str):
        raise BadText(0)
    reader = Reader(value)
    program = reader.read_parts(0)
    # The brackets of an in without parts can be read, but are not its text.
    if program_error(MAX_ROOMS, program) is not None or program_text(program) != value:
        raise BadText(0)
    return program
