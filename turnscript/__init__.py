"""Turnscript: rows of signs that are written in two directions, and how they are seen."""
