"""Trudge: walks with a store of strength."""
