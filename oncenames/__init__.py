"""Oncenames: each name put once."""
