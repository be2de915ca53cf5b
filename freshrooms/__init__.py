"""Freshrooms: machines over names from an endless store."""
