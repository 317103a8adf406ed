"""Rebuiltby: what rebuilding files shows about who can be trusted."""
