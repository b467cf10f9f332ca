"""Roundcalls: programs that run into their own calls."""
