"""Webs of ties, stands on them, and changes of stands."""
