"""A keeper of a lone web that changes."""
