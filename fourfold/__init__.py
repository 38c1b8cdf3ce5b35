"""Fourfold: pictures told by quarters."""
