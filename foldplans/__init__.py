"""Foldplans: loops that put lists together by an operation of which only some rules are known."""
