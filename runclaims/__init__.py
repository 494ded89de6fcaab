"""Runclaims: what all runs of some processes keep."""
