"""Arrowhall: boxes, arrows between them, and what arrows that follow on one another make."""
