"""Unknowntables: and, or, not with unknown, all logics and what they promise."""
