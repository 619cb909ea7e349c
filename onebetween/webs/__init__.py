"""Webs, whether they are lone or not."""
