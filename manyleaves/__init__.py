"""Manyleaves: trees with many leaves."""
