"""The limits that some functions and commands apply to their arguments."""

MAX_SEQUENCE = 300
MAX_PEOPLE = 200
MAX_PEOPLE_IN_SEQUENCES = 9
MAX_GROUPS = 12
