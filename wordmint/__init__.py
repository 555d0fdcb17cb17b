"""Wordmint: a stack language whose words make words."""
