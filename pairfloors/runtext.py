"""Texts of runs."""

from pairfloors.errors import BadText
from pairfloors.words import numbers_of

NO_DEEDS = "."


def run_text(run):
    """The run word of the run."""
    if not run:
        return NO_DEEDS
    return ",".join([f"{x}-{y}-{coat}" for x, y, coat in run])


def run_from(text):
    """The run of which the text is the run word."""
    run = run_of(text)
    if run is None:
        raise BadText(0)
    return run


def run_of(word):
    """The run that the word tells, or None if it is no run word."""
    if word == NO_DEEDS:
        return ()
    run = tuple([numbers_of(deed.split("-"), 3) for deed in word.split(",")])
    return None if None in run else run
