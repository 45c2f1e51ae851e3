"""Turnedties: switching the gains of a web, and certificates for what switching can reach."""
