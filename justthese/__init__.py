"""Tables of deeds as all the ways to lay a web into itself."""
