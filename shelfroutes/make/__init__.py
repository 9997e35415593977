"""Schemes that are made: from trees, with cheap transitions, and without steps that do nothing."""
