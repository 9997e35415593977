"""Stores, steps, plans and schemes."""
