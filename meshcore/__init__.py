"""Exact geometry of triangulations, polygons and hulls."""
