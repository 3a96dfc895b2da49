"""Crossfarers: travellers who exchange the rest of their plans where they meet."""
