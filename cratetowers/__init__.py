"""Cratetowers: small crates on large ones, three places, each crate its own prices."""
