"""Latticepoints: exact counts of points with integer coordinates in shapes and cones."""
