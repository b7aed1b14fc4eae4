"""The words for what a driver does at a trip."""

LOAD = "load"
PULL = "pull"
LEAVE = "leave"
# In the order in which the document lists them.
WORDS = (LOAD, PULL, LEAVE)

# What can be seen at a trip beside a load and a pull.
MISSED = "missed"
NONE = "none"
ENTRIES = (LOAD, MISSED, PULL, NONE)
