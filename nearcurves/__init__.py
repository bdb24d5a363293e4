"""Nearcurves: the making of a number library's functions, with exact answers."""
