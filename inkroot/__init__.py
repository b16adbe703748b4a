"""Inkroot: a library in which no sign is typed twice."""
