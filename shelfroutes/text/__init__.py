"""Queries, plans and schemes as texts."""
