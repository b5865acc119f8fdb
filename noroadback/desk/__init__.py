"""A desk of turners with names."""
