"""Wellfolk: a counterweight well."""
