"""Polygons and their flips."""
