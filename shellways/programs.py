"""Programs: whether a value is one, how large it is, and its names."""

from shellways.checks import checked


def check_program(program):
    """Returns None if the value is a program; raises InvalidProgram otherwise."""
    checked(program)


def program_size(program):
    """Returns the number of trees and the unfolded size."""
    check = checked(program)
    return check.trees, check.unfolded


def command_names(program):
    """Returns the ascending lists of the names of commands and of variables."""
    check = checked(program)
    return sorted(check.commands), sorted(check.variables)
