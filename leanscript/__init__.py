"""Leanscript: programs made short, and led back."""
