"""Leaperwalk: leaping pieces over floors with holes."""
