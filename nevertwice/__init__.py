"""Nevertwice: floors that never come again, told three ways."""
