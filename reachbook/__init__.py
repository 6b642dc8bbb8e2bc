"""Reachbook: a web that changes, and what is asked of it."""
