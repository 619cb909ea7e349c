"""Webs, walks and papers as texts, and a shell for commands."""
