"""Meettasks: tasks that meet, in all orders."""
