"""Oxhide: walks over a grid, the land that they sweep, and a land office that keeps them."""
