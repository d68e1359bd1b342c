"""Turnroots: powers and roots of rearrangements."""
