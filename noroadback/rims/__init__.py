"""Rims of surfaces, and turners that keep them."""
