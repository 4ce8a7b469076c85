"""Proofshare: rewriting told in shared steps."""
