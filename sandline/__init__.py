"""Sandline: closed lines round dots, turned back at mirrors."""
