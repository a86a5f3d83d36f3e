"""Pourwright: great rows sorted in a small room."""
