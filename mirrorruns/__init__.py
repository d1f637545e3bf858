"""Mirrorruns: stretches of a row that read alike both ways."""
