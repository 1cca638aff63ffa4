"""Pairfloors: floors that change by like pairs."""
