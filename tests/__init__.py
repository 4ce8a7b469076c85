"""The tests of proofshare."""
