"""Terms of places between places, their forms, and which of them are equal in all lone webs of depth 2."""
