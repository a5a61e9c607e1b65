"""Polygons that walk by flipping their corners."""
