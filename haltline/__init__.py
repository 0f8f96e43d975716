"""Haltline: trains on one track between halts."""
