"""Friendfoe: webs of friends and foes, and papers for what is told of them."""
