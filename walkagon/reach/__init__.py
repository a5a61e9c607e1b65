"""Which polygons flips lead to."""
