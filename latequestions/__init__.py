"""Latequestions: questions to a table that are asked when one looks."""
