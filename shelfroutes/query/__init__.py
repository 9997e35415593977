"""Queries: their tables, roles and tests."""
