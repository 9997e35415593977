"""Histories of engines, and snapshots of one full match."""
