"""Reasonkeep: facts kept with their reasons."""
