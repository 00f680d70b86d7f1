"""Digbook: what lies on what in a dig, what is elder, and which years fit."""
