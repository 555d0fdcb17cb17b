"""All building acts, for machines whose store is a system."""

from wordmint.building import BUILDING_ACTS
from wordmint.naming import NAMING
from wordmint.scanning import SCANNING


def full_actions():
    """A new dict of all building acts and forget."""
    actions = dict(SCANNING)
    actions.update(dict(BUILDING_ACTS))
    actions.update(dict(NAMING))
    return actions
