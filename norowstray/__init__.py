"""Norowstray: dependencies of tables, what follows from them, and what is lost."""
