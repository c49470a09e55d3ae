"""Fullrooms: a house all but full, led from one stand to another, one thing at a time."""
