"""Tagless: documents read by the first kind that fits, and what gets lost."""
