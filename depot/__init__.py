"""Depot: bins, lots, promises, waves and walks of a store house."""
