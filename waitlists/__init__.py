"""Waitlists: which messages must be opened first."""
