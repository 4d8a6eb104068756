"""Floors that one can walk, from triangles, and ways on them."""
