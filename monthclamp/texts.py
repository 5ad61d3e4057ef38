"""Texts of dates and of lists of steps."""

# The text of a list without steps.
NO_STEPS = "none"


def show_date(date):
    """Return the text of a date."""
    year, month, day = date
    return f"{year}/{month}/{day}"


def show_steps(steps):
    """Return the text of a list of steps."""
    if not steps:
        return NO_STEPS
    return " ".join([_show_step(step) for step in steps])


def _show_step(step):
    """Return the text of one step."""
    # The format would give a zero a sign, too.
    return "0" if step == 0 else f"{step:+d}"
