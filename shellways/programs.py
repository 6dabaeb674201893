"""Programs: whether a value is one, how large it is, and its names."""

from shellways.plans import OF_VARIABLES, plan_of


def check_program(program):
    """Returns None if the value is a program; raises InvalidProgram otherwise."""
    plan_of(program)


def program_size(program):
    """Returns the number of trees and the unfolded size."""
    plan = plan_of(program)
    return len(plan.nodes), plan.main.unfolded


def command_names(program):
    """Returns the ascending lists of the names of commands and of variables."""
    plan = plan_of(program)
    return plan.names_of(("run",)), plan.names_of(OF_VARIABLES)
