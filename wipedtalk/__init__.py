"""Talks that are broken when programs forget."""
