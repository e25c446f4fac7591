"""Forktold: trees told by their leaves."""
