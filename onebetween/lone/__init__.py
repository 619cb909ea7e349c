"""Lone webs: those with just one walk of so many steps between any two places."""
