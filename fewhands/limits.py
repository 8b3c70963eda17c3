"""The limits of books, groups and searches."""

# Of one book: kinds of persons, roles of a kind, tasks, remembered names, width.
KINDS = 3
ROLES = 4
TASKS = 8
REMEMBERED = 3
WIDTH = 5

# Persons in a group.
MANY = 3

# Of the plan of a book: occurrences of names, levels of its normal form.
NAMES = 16
LEVELS = 5

# Stands that a search may reach.
STANDS = 2000

# More persons of a kind than this change nothing.
CAP = 8
