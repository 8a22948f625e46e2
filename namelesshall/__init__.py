"""Namelesshall: hands without names, and which of them can be the first."""
