"""Fewspeak: few that speak for many, drawn by told throws."""
